"""Checking certificates, row by row (points 51, 78 and 79)."""

from onelooker.cards import check_literal, is_whole
from onelooker.deciders import clashes
from onelooker.errors import BadLiteral, BadRow, NoOwner
from onelooker.literals import clause_of, negations
from onelooker.names import is_ascending, is_int


def card_of(problem, owner):
    """The card of an owner of the problem; None for the empty string."""
    return None if owner == "" else problem.card(owner)


def _are_literals(values, names, theories):
    """True if all the values are literals over the names and theories."""
    try:
        for value in values:
            check_literal(value, names, theories)
    except (BadLiteral, NoOwner):
        return False
    return True


def _theory_clause(problem, owner, clause):
    """The clause of a theory row; None if the row is not right."""
    if (owner != "" and owner not in problem.owners) or not isinstance(clause, tuple):
        return None
    card = card_of(problem, owner)
    # A literal of another owner is refused, too, because there is no other theory to check it with.
    if not _are_literals(clause, problem.names, {owner: card}) or not is_ascending(clause):
        return None
    return clause if clashes(card, problem.names, negations(clause)) else None


def _resolved(first, second, atom, found):
    """The clause of a resolve row behind rows with the found clauses; None if the row is not right."""
    if not is_whole(first, 0, len(found) - 1) or not is_whole(second, 0, len(found) - 1):
        return None
    # True is equal to 1, so an atom with it may be equal to one of the clause.
    if not isinstance(atom, tuple) or any([isinstance(part, bool) for part in atom]):
        return None
    if (atom, True) not in found[first] or (atom, False) not in found[second]:
        return None
    return clause_of([*[literal for literal in found[first] if literal != (atom, True)],
                      *[literal for literal in found[second] if literal != (atom, False)]])


def row_clause(problem, row, found):
    """The clause of a row behind rows with the found clauses; None if the row is not right."""
    if not isinstance(row, tuple) or len(row) == 0:
        return None
    if row[0] == "given" and len(row) == 2:
        return problem[row[1]] if is_int(row[1]) and row[1] in problem else None
    if row[0] == "theory" and len(row) == 3:
        return _theory_clause(problem, row[1], row[2])
    if row[0] == "resolve" and len(row) == 4:
        return _resolved(row[1], row[2], row[3], found)
    return None


def row_clauses(problem, certificate):
    """The clauses of the rows."""
    found = []
    for index, row in enumerate(certificate.rows):
        clause = row_clause(problem, row, found)
        if clause is None:
            raise BadRow(index)
        found.append(clause)
    return found


def check(problem, certificate):
    """The conclusion of an accepted certificate."""
    if len(certificate) == 0:
        raise BadRow(0)
    return row_clauses(problem, certificate)[-1]


def refutes(problem, certificate):
    """True if the certificate is accepted and its conclusion is the empty clause."""
    try:
        return check(problem, certificate) == ()
    except BadRow:
        return False


class Checker:
    """Checks certificates for one problem."""

    def __init__(self, problem):
        self.problem = problem

    def __call__(self, certificate):
        return check(self.problem, certificate)
