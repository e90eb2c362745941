"""Deciding theories by themselves: own parts, cells, and least clashes (points 59 to 73)."""

from onelooker.belowfits import below_part, below_parts, below_truth
from onelooker.cells import Cells
from onelooker.errors import BadCard, Stands
from onelooker.kindsfits import kinds_parts, kinds_truth
from onelooker.literals import clause_of, holds_at, owner_of
from onelooker.names import cells_over
from onelooker.ringfits import ring_parts, ring_truth
from onelooker.rowsfits import rows_parts, rows_truth
from onelooker.termsfits import terms_part, terms_truth


def _shared_hold(names, literals, cell):
    """True if those of the literals that are shared hold at the cell."""
    return all([holds_at(names, literal, cell) for literal in literals if owner_of(literal) == ""])


def _own(literals):
    """Those of the literals that are not shared."""
    return [literal for literal in literals if owner_of(literal) != ""]


def all_parts(card, names, literals, cell):
    """All own parts at the cell in which all the literals hold, ascending."""
    if card is not None and card[0] == "terms":
        raise BadCard(card)
    if not _shared_hold(names, literals, cell):
        return []
    if card is None:
        return [()]
    if card[0] == "rows":
        return rows_parts(card, names, _own(literals), cell)
    if card[0] == "kinds":
        return kinds_parts(card, names, _own(literals), cell)
    if card[0] == "below":
        return below_parts(card, names, _own(literals), cell)
    return ring_parts(card, names, _own(literals), cell)


def fits(card, names, literals, cell):
    """The chosen own part; None if the literals do not fit the cell."""
    if not _shared_hold(names, literals, cell):
        return None
    if card is not None and card[0] == "terms":
        return terms_part(card, names, _own(literals), cell)
    if card is not None and card[0] == "below":
        return below_part(card, names, _own(literals), cell)
    parts = all_parts(card, names, literals, cell)
    return parts[0] if len(parts) > 0 else None


def _own_truth(card, names, cell, own, atom):
    """True if an own atom holds in the own part at the cell."""
    if card[0] == "rows":
        return rows_truth(card, names, cell, own, atom)
    if card[0] == "kinds":
        return kinds_truth(card, names, cell, own, atom)
    if card[0] == "below":
        return below_truth(card, names, cell, own, atom)
    if card[0] == "ring":
        return ring_truth(card, names, cell, own, atom)
    return terms_truth(card, names, cell, own, atom)


def true_in(card, names, cell, own, literal):
    """True if the literal holds in the own part at the cell."""
    if owner_of(literal) == "":
        return holds_at(names, literal, cell)
    atom, sign = literal
    return _own_truth(card, names, cell, own, atom) == sign


def _given_cells(names, among):
    """The cells that are asked about, ascending."""
    return cells_over(len(names)) if among is None else list(among.rows)


def cells_of(card, names, literals, *, among=None):
    """The cells, among the given ones, that the literals fit."""
    given = _given_cells(names, among)
    return Cells(len(names), [cell for cell in given if fits(card, names, literals, cell) is not None])


def clashes(card, names, literals, *, among=None):
    """True if the literals fit no cell among the given ones."""
    for cell in _given_cells(names, among):
        if fits(card, names, literals, cell) is not None:
            return False
    return True


def least_clash(card, names, literals):
    """Those of clashing literals that remain when each one is left out, in ascending order, that is not needed."""
    kept = clause_of(literals)
    if not clashes(card, names, kept):
        raise Stands()
    for literal in clause_of(literals):
        others = tuple([other for other in kept if other != literal])
        if clashes(card, names, others):
            kept = others
    return kept
