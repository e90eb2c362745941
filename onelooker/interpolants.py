"""Interpolants from certificates (points 168 and 169)."""

from onelooker.cells import Cells
from onelooker.checking import row_clauses
from onelooker.errors import BadRow, NamesMismatch, SharedOwner, Stands
from onelooker.literals import owner_of


def _joint(left, right):
    """The sum of two problems without a common owner or label; raises an error if they have one."""
    if left.names != right.names:
        raise NamesMismatch()
    for owner in left.owners:
        if owner in right.owners:
            raise SharedOwner(owner)
    return left + right


def _where_some_holds(names, clause):
    """The cells at which some shared literal of a clause holds."""
    found = Cells(len(names), [])
    for literal in clause:
        if owner_of(literal) == "":
            found = found | Cells.where(names, [literal])
    return found


def _row_set(left, row, clause, sets):
    """The set of a row with this clause behind rows with these sets."""
    if row[0] == "resolve":
        low, high = sets[row[1]], sets[row[2]]
        return low | high if row[3][0] in left.owners else low & high
    from_left = row[1] in (left.labels if row[0] == "given" else left.owners)
    return _where_some_holds(left.names, clause) if from_left else Cells.every(len(left.names))


def _sets_of(left, certificate, clauses):
    """The sets of the rows of a certificate, whose rows have these clauses."""
    sets = []
    for row, clause in zip(certificate.rows, clauses):
        sets.append(_row_set(left, row, clause, sets))
    return sets


def row_sets(left, right, certificate):
    """The sets of the rows of a certificate whose rows are right for the sum of two problems."""
    return _sets_of(left, certificate, row_clauses(_joint(left, right), certificate))


def interpolant(left, right, certificate):
    """The set of the last row of a certificate that ends in the empty clause."""
    clauses = row_clauses(_joint(left, right), certificate)
    if len(clauses) == 0:
        raise BadRow(0)
    if clauses[-1] != ():
        raise Stands()
    return _sets_of(left, certificate, clauses)[-1]
