"""Certificates: rows that give clauses, or resolve earlier ones (points 77 and 80)."""

from onelooker.cards import is_whole
from onelooker.errors import BadRow
from onelooker.names import is_int


def _moved(row, by):
    """The row, with its indexes increased if it is a resolve row."""
    if not isinstance(row, tuple) or len(row) != 4 or row[0] != "resolve":
        return row
    word, first, second, atom = row
    return (word, first + by, second + by, atom) if is_int(first) and is_int(second) else row


class Certificate:
    """A list of rows. It does not change, and any value may stand as a row."""

    def __init__(self, rows):
        self.rows = tuple(rows)

    @staticmethod
    def given(label):
        """The certificate whose only row gives the clause of a label."""
        return Certificate([("given", label)])

    @staticmethod
    def theory(owner, clause):
        """The certificate whose only row gives a clause of a theory."""
        return Certificate([("theory", owner, clause)])

    def __eq__(self, other):
        return isinstance(other, Certificate) and self.rows == other.rows

    def __len__(self):
        return len(self.rows)

    def __iter__(self):
        return iter(self.rows)

    def __getitem__(self, at):
        if not is_whole(at, 0, len(self.rows) - 1):
            raise BadRow(at)
        return self.rows[at]

    def __add__(self, other):
        return Certificate([*self.rows, *[_moved(row, len(self.rows)) for row in other.rows]])

    @property
    def last(self):
        """The index of the last row, -1 if there is none."""
        return len(self.rows) - 1

    def resolve(self, first, second, atom):
        """The certificate with one more row, which resolves two rows on an atom."""
        return Certificate([*self.rows, ("resolve", first, second, atom)])
