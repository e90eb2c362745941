"""Theories with a terms card, at one cell (points 64 to 66 and 68)."""

from onelooker.equalterms import known_terms, unions
from onelooker.kindsfits import block_of
from onelooker.names import ENDLESS, pairs
from onelooker.terms import is_plain


def _together(names, cell):
    """The pairs of names with the same mark, as terms."""
    return [((low,), (high,)) for low, high in pairs(names)
            if block_of(names, cell, low) == block_of(names, cell, high)]


def known_with(names, literals):
    """The names, the terms in the own literals, and all subterms, in the order of terms."""
    return known_terms([*[(name,) for name in names], *[term for atom, _ in literals for term in atom[2:]]])


def term_leads(names, literals, cell, known):
    """The first term to which each known term must be equal; None if the own literals do not fit the cell.

    The known terms are given in the order of terms, with the names and all terms in the literals among them.
    """
    if cell[0] != ENDLESS:
        return None
    together = _together(names, cell)
    asserted = [atom[2:] for atom, sign in literals if sign]
    leads, _ = unions([*asserted, *together], known)
    apart = [pair for pair in pairs([(name,) for name in names]) if pair not in together]
    denied = [atom[2:] for atom, sign in literals if not sign]
    if any([leads[low] == leads[high] for low, high in [*apart, *denied]]):
        return None
    return leads


def terms_part(card, names, literals, cell):
    """The chosen own part for own literals; None if they do not fit the cell."""
    leads = term_leads(names, literals, cell, known_with(names, literals))
    if leads is None:
        return None
    values = {leads[(name,)]: block_of(names, cell, name) for name in names}
    # There is a value for each block at first, so the number of values is the next one that no term has.
    return tuple([(term, values.setdefault(leads[term], len(values))) for term in leads if not is_plain(term)])


def _table(names, cell, own):
    """The values of functions: a dict from tuples of a function and the values of its arguments."""
    values = {(name,): block_of(names, cell, name) for name in names}
    values.update({term: value for term, value in own})
    return {(term[0], *[values[part] for part in term[1:]]): value for term, value in own}


def _value_by(names, cell, table, term):
    """The value of a term by a table of the values of functions."""
    if is_plain(term):
        return block_of(names, cell, term[0])
    key = (term[0], *[_value_by(names, cell, table, part) for part in term[1:]])
    return table.get(key, key)


def term_value(names, cell, own, term):
    """The value of a term in an own part; a tuple if it is a new thing."""
    return _value_by(names, cell, _table(names, cell, own), term)


def terms_truth(card, names, cell, own, atom):
    """True if an equal atom holds in an own part."""
    return term_value(names, cell, own, atom[2]) == term_value(names, cell, own, atom[3])
