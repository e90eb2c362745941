"""Smooth and convex theories, closed tables, and cards that are alike (points 109 to 113)."""

from onelooker.cells import Cells
from onelooker.families import family_sets, unit_sets
from onelooker.names import ENDLESS, meet
from onelooker.typetables import type_rows


def is_smooth(owner, card, names):
    """True if each row of the table also occurs with each larger size."""
    if card[0] == "terms":
        return True
    rows = {row: True for row in type_rows(owner, card, names)}
    larger = [((more, marks), atoms) for (size, marks), atoms in rows for more in range(size + 1, ENDLESS + 1)]
    return all([row in rows for row in larger])


def _is_between(row, low, high):
    """True if a row lies between two rows, as a closed table asks, except for the partition."""
    (size, _), atoms = row
    sizes = (low[0][0], high[0][0])
    if not min(sizes) <= size <= max(sizes):
        return False
    if not all([atom in atoms for atom in low[1] if atom in high[1]]):
        return False
    return all([atom in low[1] or atom in high[1] for atom in atoms])


def table_closed(owner, card, names):
    """True if between any two rows of the table there is a row with the meet of their partitions."""
    if card[0] == "terms":
        return True
    rows = type_rows(owner, card, names)
    by_marks = {}
    for row in rows:
        by_marks.setdefault(row[0][1], []).append(row)
    for at, low in enumerate(rows):
        for high in rows[at + 1:]:
            found = by_marks.get(meet(low[0][1], high[0][1]), [])
            if not any([_is_between(row, low, high) for row in found]):
                return False
    return True


def _lacks_meet(cells):
    """True if no cell of a set has the meet of the partitions of all its cells."""
    return not cells.has_marks(cells.meet_marks())


def meet_gap(owner, card, names):
    """The first set that the theory can know and that has no cell with the meet; None if the theory is convex."""
    units = unit_sets(names)
    known = {(cells & unit).rows: True for cells in family_sets(owner, card, names) for unit in units}
    for rows in sorted(list(known)):
        cells = Cells(len(names), rows)
        if len(cells) > 0 and _lacks_meet(cells):
            return cells
    return None


def is_convex(owner, card, names):
    """True if each set that the theory can know has a cell with the meet of its partitions."""
    return meet_gap(owner, card, names) is None


def cards_alike(owner, first, second, names):
    """True if the families of both cards contain the same sets."""
    return list(family_sets(owner, first, names)) == list(family_sets(owner, second, names))
