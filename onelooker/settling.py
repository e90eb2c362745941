"""Settling unit problems: their ends and points, certificates and cores (points 145 to 150)."""

from onelooker.certificates import Certificate
from onelooker.deciders import clashes, least_clash
from onelooker.errors import Stands
from onelooker.literals import clause_of, negations, owner_of, shared_literals
from onelooker.rounds import Rounds
from onelooker.trimming import trimmed


class Settled:
    """Whether a unit problem stands under its policy, and what shows it."""

    def __init__(self, stands, point, clause, certificate):
        self.stands = stands
        self.point = point
        self.clause = clause
        self.certificate = certificate


class Proof:
    """Rows of a certificate with their clauses, each row once. It changes by the methods that begin with add."""

    def __init__(self):
        self.proved = []
        self._rows = []
        self._places = {}

    def _add(self, row, clause):
        """The index of a row, which is added unless it is there."""
        if row not in self._places:
            self._places[row] = len(self._rows)
            self._rows.append(row)
            self.proved.append(clause)
        return self._places[row]

    def add_given(self, label, clause):
        """The index of the row that gives the clause of a label."""
        return self._add(("given", label), clause)

    def add_theory(self, owner, clause):
        """The index of the row that has a clause of a theory."""
        return self._add(("theory", owner, clause), clause)

    def add_resolved(self, first, second, literal):
        """The index of the row that resolves a row with a literal and a row with its negation."""
        atom, sign = literal
        low, high = (first, second) if sign else (second, first)
        clause = clause_of([*[other for other in self.proved[low] if other != (atom, True)],
                            *[other for other in self.proved[high] if other != (atom, False)]])
        return self._add(("resolve", low, high, atom), clause)

    def certificate_to(self, index):
        """The certificate that ends in a row."""
        return trimmed(Certificate(self._rows), end=index)


def _clashing(names, theories, literals):
    """An owner, or the empty string, with those of the literals that clash for it; None if there is no such owner."""
    for owner in ["", *sorted(list(theories))]:
        card = theories.get(owner)
        told = [literal for literal in literals if owner_of(literal) in ("", owner)]
        if clashes(card, names, told):
            return owner, least_clash(card, names, told)
    return None


def _add_clash(proof, names, theories, literals, atoms):
    """The index of a row whose clause denies some of the literals; the shared atoms are those not decided by them."""
    found = _clashing(names, theories, literals)
    if found is not None:
        owner, clash = found
        return proof.add_theory(owner, negations(clash))
    atom, rest = atoms[0], atoms[1:]
    first = _add_clash(proof, names, theories, [*literals, (atom, False)], rest)
    if (atom, True) not in proof.proved[first]:
        return first
    second = _add_clash(proof, names, theories, [*literals, (atom, True)], rest)
    if (atom, False) not in proof.proved[second]:
        return second
    return proof.add_resolved(first, second, (atom, True))


def add_denial(proof, names, theories, literals):
    """The index of a row whose clause has negations of the literals alone, which have no common cell.

    It rests on theory rows: once all shared atoms are decided, a single cell is left, and some theory excludes it.
    """
    decided = [atom for atom, _ in literals]
    atoms = [atom for atom, sign in shared_literals(names) if sign and atom not in decided]
    return _add_clash(proof, names, theories, clause_of(literals), atoms)


def branch_ends(names, theories, policy, literals):
    """Generates the ends of a unit problem."""
    waiting = [Rounds(names, theories, policy, literals)]
    while len(waiting) > 0:
        rounds = waiting.pop()
        rounds.run()
        demanded = rounds.demand_now()
        if len(demanded) == 0 and not rounds.refuted:
            yield rounds.shared
        # The first branch is put last, because the last one that waits is taken next.
        waiting.extend([rounds.branch(literal) for literal in reversed(list(demanded))])


def _first_end(names, theories, policy, literals):
    """The first end of a unit problem; None if it has none."""
    for end in branch_ends(names, theories, policy, literals):
        return end
    return None


def settle(names, theories, policy, literals):
    """Whether a unit problem stands under its policy: its first end, or a certificate that it does not."""
    point = _first_end(names, theories, policy, literals)
    if point is not None:
        return Settled(True, point, None, None)
    proof = Proof()
    last = add_denial(proof, names, theories, literals)
    return Settled(False, None, proof.proved[last], proof.certificate_to(last))


def widest_points(names, theories, policy, literals):
    """The points of a unit problem that lie within no other point, ascending by their rows."""
    ends = {end.rows: end for end in branch_ends(names, theories, policy, literals)}
    return [ends[rows] for rows in sorted(list(ends))
            if not any([other != rows and ends[rows].within(ends[other]) for other in ends])]


def core(names, theories, policy, literals):
    """Those literals of a unit problem that are left when each one is left out, in ascending order, if it can be."""
    kept = clause_of(literals)
    if _first_end(names, theories, policy, kept) is not None:
        raise Stands()
    for literal in clause_of(literals):
        others = tuple([other for other in kept if other != literal])
        if _first_end(names, theories, policy, others) is None:
            kept = others
    return kept
