"""The own atoms of a theory, and the table of what may hold at each cell (points 74 to 76)."""

from onelooker.deciders import all_parts, true_in
from onelooker.errors import BadCard
from onelooker.literals import below, of_kind, turn, word
from onelooker.names import cells_over, pairs


def _own_literals(owner, card, names):
    """The positive literals of the own atoms, in any order."""
    if card[0] == "rows":
        return [word(owner, text) for _, words in card[1] for text in words]
    if card[0] == "kinds":
        return [of_kind(owner, name, kind) for name in names for kind, _ in card[1]]
    if card[0] == "below":
        return [below(owner, low, high) for low in names for high in names if low != high]
    return [turn(owner, low, high, steps) for low, high in pairs(names) for steps in range(card[1])]


def own_atoms(owner, card, names):
    """The own atoms of a theory over the names, ascending."""
    if card[0] == "terms":
        raise BadCard(card)
    return sorted({atom for atom, _ in _own_literals(owner, card, names)})


def type_rows(owner, card, names):
    """The rows (cell, atoms) of the table of a theory over the names, ascending."""
    atoms = own_atoms(owner, card, names)
    places = [(cell, own) for cell in cells_over(len(names)) for own in all_parts(card, names, (), cell)]
    rows = [(cell, tuple([atom for atom in atoms if true_in(card, names, cell, own, (atom, True))]))
            for cell, own in places]
    return sorted(set(rows))
