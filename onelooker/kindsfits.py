"""Theories with a kinds card, at one cell (points 61, 65 and 67)."""

from onelooker.names import ENDLESS, block_count


def block_of(names, cell, name):
    """The block of a name at a cell over the names."""
    return cell[1][names.index(name)]


def kinds_size(card):
    """The size that the card asks for."""
    counts = [count for _, count in card[1]]
    return ENDLESS if 0 in counts else sum(counts)


def kinds_truth(card, names, cell, own, atom):
    """True if a kind atom holds in an own part."""
    return own[block_of(names, cell, atom[2])] == atom[3]


def _fillings(counts, blocks):
    """All ways to give kinds to so many blocks, no kind more often than it may occur, ascending."""
    found = [()]
    for _ in range(blocks):
        found = [(*own, kind) for own in found for kind, count in counts if count == 0 or own.count(kind) < count]
    return found


def kinds_parts(card, names, literals, cell):
    """The own parts at the cell in which all the own literals hold, ascending."""
    if cell[0] != kinds_size(card):
        return []
    return [own for own in _fillings(card[1], block_count(cell[1]))
            if all([kinds_truth(card, names, cell, own, atom) == sign for atom, sign in literals])]
