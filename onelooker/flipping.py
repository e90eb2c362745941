"""Flipping atoms to make clauses Horn, and valuations of Horn clauses (points 53 to 56)."""

from onelooker.errors import NotEasy
from onelooker.literals import negated
from onelooker.propagating import propagate


def positive(literal, flipped):
    """True if the literal is positive with the flips."""
    atom, sign = literal
    return sign != (atom in flipped)


def is_horn(clauses, flipped):
    """True if each clause has at most one literal that is positive with the flips."""
    return all([len([literal for literal in clause if positive(literal, flipped)]) <= 1 for clause in clauses])


def _atoms(clauses):
    """The different atoms in the clauses, ascending."""
    return sorted({atom for clause in clauses for atom, _ in clause})


def _forced_steps(clauses, fixed):
    """A dict from literals to lists of the literals to which they have forced steps."""
    steps = {}
    for clause in clauses:
        for literal in clause:
            forced = [negated(other) for other in clause if other != literal]
            steps.setdefault(literal, []).extend(forced)
    for atom in fixed:
        steps.setdefault((atom, False), []).append((atom, True))
    return steps


def _reached(steps, start):
    """The literals that are reached from a literal, itself included, each with the literal before it."""
    before = {start: None}
    found = [start]
    at = 0
    while at < len(found):
        literal = found[at]
        for following in steps.get(literal, []):
            if following not in before:
                before[following] = literal
                found.append(following)
        at += 1
    return before


def _path(steps, start, end):
    """The literals on a shortest way from one literal to another one, both included."""
    before = _reached(steps, start)
    found = [end]
    while found[-1] != start:
        found.append(before[found[-1]])
    return found[::-1]


def _positive_literals(clauses, steps):
    """The literals that are positive with the least flips, and the first atom that can have no sign, or None.

    A literal that is positive makes all those positive that forced steps reach from it. If the negation of the literal
    is not among them, they deny no choice that was made for other atoms before.
    """
    chosen = {}
    for atom in _atoms(clauses):
        if (atom, True) not in chosen and (atom, False) not in chosen:
            reached = _reached(steps, (atom, True))
            if (atom, False) in reached:
                reached = _reached(steps, (atom, False))
                if (atom, True) in reached:
                    return chosen, atom
            chosen.update({literal: True for literal in reached})
    return chosen, None


def horn_flips(clauses, fixed):
    """The least flips that make the clauses Horn and contain no fixed atom; None if there are none."""
    chosen, torn = _positive_literals(clauses, _forced_steps(clauses, fixed))
    if torn is not None:
        return None
    return tuple([atom for atom in _atoms(clauses) if (atom, False) in chosen])


def horn_bar(clauses, fixed):
    """A bar, which shows that no flips make the clauses Horn; None if some do."""
    steps = _forced_steps(clauses, fixed)
    _, torn = _positive_literals(clauses, steps)
    if torn is None:
        return None
    there = _path(steps, (torn, True), (torn, False))
    back = _path(steps, (torn, False), (torn, True))
    return (*there, *back[1:])


def is_horn_bar(clauses, fixed, bar):
    """True if the tuple of literals is a bar."""
    if len(bar) == 0 or bar[0] != bar[-1] or negated(bar[0]) not in bar:
        return False
    steps = _forced_steps(clauses, fixed)
    return all([following in steps.get(literal, []) for literal, following in zip(bar, bar[1:])])


def horn_valuation(clauses, flipped):
    """The valuation whose positive literals are in every valuation of Horn clauses; None if there is none."""
    if not is_horn(clauses, flipped):
        raise NotEasy()
    propagated = propagate(dict(enumerate(clauses, start=1)))
    if propagated.clash != 0:
        return None
    negative = [(atom, atom in flipped) for atom in _atoms(clauses)]
    return tuple([negated(literal) if negated(literal) in propagated else literal for literal in negative])
