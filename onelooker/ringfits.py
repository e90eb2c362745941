"""Theories with a ring card, at one cell (points 63, 65 and 67)."""

from onelooker.kindsfits import block_of
from onelooker.names import block_count


def ring_truth(card, names, cell, own, atom):
    """True if a turn atom holds in an own part."""
    start, end = own[block_of(names, cell, atom[2])], own[block_of(names, cell, atom[3])]
    return (start + atom[4]) % card[1] == end


def _colorings(colors, blocks):
    """All ways to give so many blocks colors, ascending."""
    found = [()]
    for _ in range(blocks):
        found = [(*own, color) for own in found for color in range(colors)]
    return found


def ring_parts(card, names, literals, cell):
    """The own parts at the cell in which all the own literals hold, ascending."""
    return [own for own in _colorings(card[1], block_count(cell[1]))
            if all([ring_truth(card, names, cell, own, atom) == sign for atom, sign in literals])]
