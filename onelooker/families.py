"""Unit sets, and the families of theories (points 105 to 108)."""

from onelooker.cells import Cells
from onelooker.literals import clause_of, equal, holds_at, negated, shared_literals
from onelooker.names import ENDLESS, cells_over, meet, pairs
from onelooker.typetables import own_atoms, type_rows


def unit_sets(names):
    """The unit sets over the names, in ascending order of their rows."""
    found = {tuple(cells_over(len(names))): True}
    for literal in shared_literals(names):
        for rows in list(found):
            left = tuple([cell for cell in rows if holds_at(names, literal, cell)])
            if len(left) > 0:
                found[left] = True
    return [Cells(len(names), rows) for rows in sorted(list(found))]


def _table_sets(owner, card, names):
    """The sets of the family of a theory with a table: a dict from ascending tuples of cells to literals."""
    rows = type_rows(owner, card, names)
    # A list of rows is kept as an integer with a bit for each of them, which makes it quick to narrow.
    lists = {(1 << len(rows)) - 1: ()}
    for literal in [(atom, sign) for atom in own_atoms(owner, card, names) for sign in (False, True)]:
        atom, sign = literal
        holding = sum([1 << at for at, (_, atoms) in enumerate(rows) if (atom in atoms) == sign])
        for narrowed in list(lists):
            if narrowed & holding != 0:
                lists.setdefault(narrowed & holding, (*lists[narrowed], literal))
    found = {}
    for bits in lists:
        cells = {cell: True for at, (cell, _) in enumerate(rows) if (bits >> at) & 1 == 1}
        found.setdefault(tuple(list(cells)), lists[bits])
    return found


def _put_together(names, marks):
    """The pairs of names that a partition puts together."""
    return [(low, high) for low, high in pairs(names) if marks[names.index(low)] == marks[names.index(high)]]


def _meet_of(partitions):
    """The meet of one or more partitions."""
    met = partitions[0]
    for marks in partitions:
        met = meet(met, marks)
    return met


def _literals_against(owner, names, function, marks, inside):
    """The literals about one function that fit the partitions inside, but not the one with these marks."""
    together = _put_together(names, marks)
    coarser = [other for other in inside if meet(other, marks) == marks]
    if len(coarser) > 0:
        wanted = [pair for pair in _put_together(names, _meet_of(coarser)) if pair not in together]
        low, high = wanted[0]
        first, second = together[0] if len(together) > 0 else (low, low)
        return [equal(owner, (function, (first,)), (low,)), equal(owner, (function, (second,)), (high,))]
    if len(together) == 1:
        first, second = together[0]
        return [negated(equal(owner, (function, (first,)), (function, (second,))))]
    first, second, third = [(name,) for name in names]
    return [negated(equal(owner, (function, first, second), (function, second, third)))]


def _terms_literals(owner, names, inside, outside):
    """The literals of a terms theory that fit exactly the cells of size 3 whose partitions are inside."""
    found = []
    for at, marks in enumerate(outside):
        found.extend(_literals_against(owner, names, f"f{at}", marks, inside))
    return clause_of(found)


def _terms_sets(owner, names):
    """The sets of the family of a terms theory: a dict from ascending tuples of cells to literals."""
    every = [marks for size, marks in cells_over(len(names)) if size == ENDLESS]
    choices = [()]
    for marks in every:
        choices = [(*chosen, *more) for chosen in choices for more in ((), (marks,))]
    found = {}
    for inside in choices:
        if len(inside) > 0 and all([meet(low, high) in inside for low in inside for high in inside]):
            outside = [marks for marks in every if marks not in inside]
            cells = tuple([(ENDLESS, marks) for marks in inside])
            found[cells] = _terms_literals(owner, names, inside, outside)
    return found


def _family_dict(owner, card, names):
    """The family: a dict from ascending tuples of cells to literals that fit exactly these."""
    return _terms_sets(owner, names) if card[0] == "terms" else _table_sets(owner, card, names)


def family(owner, card, names):
    """The sets of the family, each with literals that fit exactly its cells, in ascending order of the rows."""
    found = _family_dict(owner, card, names)
    return [(Cells(len(names), rows), found[rows]) for rows in sorted(list(found))]


def family_sets(owner, card, names, *, inside=None):
    """Generates the nonempty intersections of the sets of the family with given cells, in order of their rows."""
    found = _family_dict(owner, card, names)
    if inside is not None:
        found = {tuple([cell for cell in rows if cell in inside.rows]): True for rows in found}
    for rows in sorted(list(found)):
        if len(rows) > 0:
            yield Cells(len(names), rows)
