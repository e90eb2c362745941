"""What owners tell and demand (points 123 to 126)."""

from onelooker.cells import Cells
from onelooker.literals import holds_at, negated, shared_literals
from onelooker.names import cells_over


def _kind_of(literal):
    """The kind of a policy under which a shared literal is told."""
    atom, sign = literal
    if atom[1] == "size":
        return "size"
    return "same" if sign else "other"


class Views:
    """Sets of cells over some names as integers, with a bit for each cell, because these are quick to compare."""

    def __init__(self, names):
        cells = cells_over(len(names))
        self._width = len(names)
        self._cells = cells
        self._holding = {literal: sum([1 << at for at, cell in enumerate(cells) if holds_at(names, literal, cell)])
                         for literal in shared_literals(names)}
        self._kinds = {literal: _kind_of(literal) for literal in self._holding}

    def all_bits(self):
        """All cells."""
        return (1 << len(self._cells)) - 1

    def bits_of(self, cells):
        """The integer for a set of cells."""
        return sum([1 << at for at, cell in enumerate(self._cells) if cell in cells.rows])

    def cells_of_bits(self, bits):
        """The set of cells for an integer."""
        return Cells(self._width, [cell for at, cell in enumerate(self._cells) if (bits >> at) & 1 == 1])

    def narrowed(self, bits, literal):
        """Those cells of a set at which a shared literal holds."""
        return bits & self._holding[literal]

    def _holds_in(self, bits, literal):
        """True if a shared literal holds at every cell of a set."""
        return bits & self._holding[literal] == bits

    def told_in(self, kinds, live, heard):
        """The literals that an owner with these kinds tells, ascending."""
        possible = [literal for literal in self._holding if self._kinds[literal] in kinds]
        return [literal for literal in possible
                if self._holds_in(live, literal) and not self._holds_in(heard, literal)]

    def _apart(self, live):
        """The positive same literals that do not hold at every cell of a set, ascending."""
        return [literal for literal in self._holding
                if self._kinds[literal] == "same" and not self._holds_in(live, literal)]

    def _has_meet(self, live, apart):
        """True if a cell of a set has the meet of the partitions of all its cells, which keeps some pairs apart."""
        for literal in apart:
            live = live & ~self._holding[literal]
        return live != 0

    def demanded(self, kinds, live, heard):
        """The literals of which an owner with these kinds demands one; its live set is not empty."""
        if "some" in kinds:
            apart = self._apart(live)
            if not self._has_meet(live, apart):
                return tuple(apart)
        if "whole" in kinds:
            for literal in self._holding:
                if literal[1] and self.narrowed(heard, literal) not in (0, heard):
                    return (literal, negated(literal))
        return ()

    def is_quiet(self, kinds, live, heard):
        """True if an owner with these kinds has a live set, and tells and demands nothing."""
        return live != 0 and self.told_in(kinds, live, heard) == [] and self.demanded(kinds, live, heard) == ()


def told_literals(kinds, names, known, heard):
    """The literals that an owner with these kinds and sets tells, ascending."""
    views = Views(names)
    return views.told_in(kinds, views.bits_of(known & heard), views.bits_of(heard))


def demand(kinds, names, known, heard):
    """The literals of which an owner with these kinds and sets demands one; () if it demands nothing."""
    views = Views(names)
    return views.demanded(kinds, views.bits_of(known & heard), views.bits_of(heard))


def is_stuck_point(policy, names, heard, known):
    """True if no owner with a known set tells or demands anything, and all of them have live sets."""
    views = Views(names)
    return all([views.is_quiet(policy.kinds(owner), views.bits_of(known[owner] & heard), views.bits_of(heard))
                for owner in known])
