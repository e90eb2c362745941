"""Theories with a below card, at one cell (points 62, 65 and 67)."""

from onelooker.kindsfits import block_of
from onelooker.names import block_count


def _reached(following, start):
    """What is reached from a key in one or more steps; a dict has the lists of what follows in one."""
    found = list({high: True for high in following[start]})
    seen = {high: True for high in found}
    at = 0
    while at < len(found):
        for high in following.get(found[at], []):
            if high not in seen:
                seen[high] = True
                found.append(high)
        at += 1
    return found


def closed_pairs(pairs):
    """The least set that contains the pairs, and (x, z) with (x, y) and (y, z), as an ascending tuple."""
    following = {}
    for low, high in pairs:
        following.setdefault(low, []).append(high)
    return tuple(sorted([(low, high) for low in following for high in _reached(following, low)]))


def orders(count):
    """All own parts at a cell with so many blocks, ascending."""
    choices = [()]
    for pair in [(low, high) for low in range(count) for high in range(count) if low != high]:
        choices = [(*chosen, *more) for chosen in choices for more in ((), (pair,))]
    # Where closing adds nothing, no block is below itself either, because only a circle could bring that about.
    return sorted([chosen for chosen in choices if closed_pairs(chosen) == chosen])


def below_truth(card, names, cell, own, atom):
    """True if a below atom holds in an own part."""
    return (block_of(names, cell, atom[2]), block_of(names, cell, atom[3])) in own


def _all_hold(card, names, literals, cell, own):
    """True if all the own literals hold in an own part."""
    return all([below_truth(card, names, cell, own, atom) == sign for atom, sign in literals])


def below_parts(card, names, literals, cell):
    """The own parts at the cell in which all the own literals hold, ascending."""
    return [own for own in orders(block_count(cell[1])) if _all_hold(card, names, literals, cell, own)]


def below_part(card, names, literals, cell):
    """The own part with the fewest pairs in which all the own literals hold; None if there is none."""
    asserted = [(block_of(names, cell, atom[2]), block_of(names, cell, atom[3])) for atom, sign in literals if sign]
    own = closed_pairs(asserted)
    if any([low == high for low, high in own]) or not _all_hold(card, names, literals, cell, own):
        return None
    return own
