"""Sets of cells."""

from onelooker.errors import NamesMismatch
from onelooker.literals import holds_at
from onelooker.names import cells_over, check_cell, meet


def _check_widths(first, second):
    """Raises NamesMismatch unless two sets of cells are over equally many names."""
    if first.width != second.width:
        raise NamesMismatch()


class Cells:
    """A set of cells over some number of names. It does not change."""

    def __init__(self, width, rows):
        for cell in rows:
            check_cell(cell, width)
        self.width = width
        self.rows = tuple(sorted(set(rows)))

    @staticmethod
    def every(width):
        """All cells over so many names."""
        return Cells(width, cells_over(width))

    @staticmethod
    def where(names, literals):
        """The cells over the names at which all the shared literals hold."""
        cells = cells_over(len(names))
        return Cells(len(names), [cell for cell in cells if all([holds_at(names, each, cell) for each in literals])])

    def __eq__(self, other):
        return isinstance(other, Cells) and self.width == other.width and self.rows == other.rows

    def __len__(self):
        return len(self.rows)

    def __iter__(self):
        return iter(self.rows)

    def __contains__(self, x):
        return x in self.rows

    def __and__(self, other):
        _check_widths(self, other)
        return Cells(self.width, [cell for cell in self.rows if cell in other.rows])

    def __or__(self, other):
        _check_widths(self, other)
        return Cells(self.width, [*self.rows, *other.rows])

    def __sub__(self, other):
        _check_widths(self, other)
        return Cells(self.width, [cell for cell in self.rows if cell not in other.rows])

    def __invert__(self):
        return Cells(self.width, [cell for cell in cells_over(self.width) if cell not in self.rows])

    def within(self, other):
        """True if every cell is in the other set."""
        _check_widths(self, other)
        return all([cell in other.rows for cell in self.rows])

    def meet_marks(self):
        """The meet of the partitions of all cells, as marks; None for the empty set."""
        if len(self.rows) == 0:
            return None
        met = self.rows[0][1]
        for _, marks in self.rows:
            met = meet(met, marks)
        return met

    def has_marks(self, marks):
        """True if some cell has these marks."""
        return any([cell[1] == marks for cell in self.rows])
