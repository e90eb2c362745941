"""Theories written as rows cards (points 114 to 116 and 120)."""

from onelooker.cards import MOST_WORDS
from onelooker.errors import TooMany
from onelooker.literals import negated, owner_of
from onelooker.problems import Problem
from onelooker.typetables import own_atoms, type_rows

NO_ROW = "z"


class Wording:
    """Words for atoms. It does not change."""

    def __init__(self, owner, sources, *, letter="w"):
        self.owner = owner
        self.sources = tuple(sources)
        self.letter = letter

    @staticmethod
    def of_card(owner, card, names):
        """The words for the own atoms of a theory."""
        return Wording(owner, own_atoms(owner, card, names))

    def __len__(self):
        return len(self.sources)

    def __iter__(self):
        return iter(self.sources)

    def __contains__(self, x):
        return x in self.sources

    def __getitem__(self, at):
        # The place is counted, because an operator calls no method with the name of an attribute, as index is one.
        for place, atom in enumerate(self.sources):
            if atom == at:
                return f"{self.letter}{place}"
        return NO_ROW

    def __call__(self, literal):
        atom, sign = literal
        return ((self.owner, "word", self[atom]), sign)


def rows_card(owner, card, names):
    """The card written as rows; a rows card stays as it is."""
    if card[0] == "rows":
        return card
    wording = Wording.of_card(owner, card, names)
    if len(wording) > MOST_WORDS:
        raise TooMany("words")
    # The rows stay ascending, because the words of the atoms are in the order of the atoms.
    rows = [(cell, tuple([wording[atom] for atom in atoms])) for cell, atoms in type_rows(owner, card, names)]
    return ("rows", tuple(rows))


def turned_forward(atom, card):
    """The turn from the earlier to the later name that says the same as a turn between different names."""
    owner, form, start, end, steps = atom
    if start < end:
        return atom
    return (owner, form, end, start, card[1] - steps if steps > 0 else 0)


def _worded(wording, card, literal):
    """The literal about the word of the atom of an own literal."""
    atom, sign = literal
    if card[0] != "ring":
        return wording(literal)
    if atom[2] == atom[3]:
        # No row has the word, so it is denied where the atom always holds.
        return wording(literal if atom[4] != 0 else negated(literal))
    return wording((turned_forward(atom, card), sign))


def rows_literal(owner, card, names, literal):
    """The literal that replaces a literal when the card is written as rows."""
    if owner_of(literal) != owner or card[0] == "rows":
        return literal
    return _worded(Wording.of_card(owner, card, names), card, literal)


def rows_problem(problem, owner):
    """The problem with the card and the literals of an owner written as rows."""
    card = problem.card(owner)
    theories = {**problem.theories(), owner: rows_card(owner, card, problem.names)}
    clauses = {label: tuple([rows_literal(owner, card, problem.names, literal) for literal in problem[label]])
               for label in problem.labels}
    return Problem(problem.names, theories, clauses)
