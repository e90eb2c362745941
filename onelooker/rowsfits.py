"""Theories with a rows card, at one cell (points 60, 65 and 67)."""


def rows_truth(card, names, cell, own, atom):
    """True if a word atom holds in an own part."""
    _, words = card[1][own[0]]
    return atom[2] in words


def rows_parts(card, names, literals, cell):
    """The own parts at the cell in which all the own literals hold, ascending."""
    every = [(index,) for index, (place, _) in enumerate(card[1]) if place == cell]
    return [own for own in every
            if all([rows_truth(card, names, cell, own, atom) == sign for atom, sign in literals])]
