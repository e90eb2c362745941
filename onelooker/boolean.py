"""Valuations of clauses, and rows that end in a clause within a goal (points 51 and 56 to 58)."""

from onelooker.errors import Stands
from onelooker.literals import clause_of, negated, negations


def _atoms(clauses):
    """The different atoms in labeled clauses, ascending."""
    return sorted({atom for label in clauses for atom, _ in clauses[label]})


def _open_after(clauses, literal):
    """Labeled clauses without those in which a chosen literal is, and without its negation."""
    denied = negated(literal)
    return {label: tuple([other for other in clauses[label] if other != denied])
            for label in clauses if literal not in clauses[label]}


def _choices(clauses, atoms):
    """Generates, ascending, the choices of a literal for each of the atoms that give each clause a literal."""
    if () in list(clauses.values()):
        return
    if len(atoms) == 0:
        yield ()
        return
    rest = atoms[1:]
    for sign in (False, True):
        literal = (atoms[0], sign)
        opened = _open_after(clauses, literal)
        for chosen in _choices(opened, rest):
            yield (literal, *chosen)


def valuations(clauses):
    """Generates all valuations of labeled clauses, ascending."""
    atoms = _atoms(clauses)
    yield from _choices(clauses, atoms)


def valuation(clauses):
    """The first valuation of labeled clauses; None if there is none."""
    for first in valuations(clauses):
        return first
    return None


def _refuted(clauses, opened, atoms, proved):
    """A clause that is denied by the literals chosen so far; the open clauses are what these leave of the clauses.

    How it follows is added to the proved clauses: a dict from clauses to their rows, with clauses instead of indexes.
    """
    for label in opened:
        if opened[label] == ():
            proved.setdefault(clauses[label], ("given", label))
            return clauses[label]
    if len(atoms) == 0:
        raise Stands()
    atom, rest = atoms[0], atoms[1:]
    first = _refuted(clauses, _open_after(opened, (atom, False)), rest, proved)
    if (atom, True) not in first:
        return first
    second = _refuted(clauses, _open_after(opened, (atom, True)), rest, proved)
    if (atom, False) not in second:
        return second
    resolved = clause_of([literal for literal in [*first, *second] if literal[0] != atom])
    proved.setdefault(resolved, ("resolve", first, second, atom))
    return resolved


def _needed(proved, goal):
    """The proved clauses on which one of them rests, in the order in which they were proved; itself comes last."""
    needed = {goal: True}
    for clause in reversed(list(proved)):
        if clause in needed and proved[clause][0] == "resolve":
            needed[proved[clause][1]] = True
            needed[proved[clause][2]] = True
    return [clause for clause in proved if clause in needed]


def _row(reason, numbers):
    """The row of a proved clause, with the numbers of the clauses to which it refers."""
    if reason[0] == "given":
        return reason
    return ("resolve", numbers[reason[1]], numbers[reason[2]], reason[3])


def refutation_rows(clauses, goal=()):
    """Rows that end in a clause whose literals are all in the goal."""
    opened = {label: clauses[label] for label in sorted(list(clauses))}
    for literal in negations(goal):
        opened = _open_after(opened, literal)
    proved = {}
    last = _refuted(clauses, opened, _atoms(opened), proved)
    needed = _needed(proved, last)
    numbers = {clause: number for number, clause in enumerate(needed)}
    return tuple([_row(proved[clause], numbers) for clause in needed])
