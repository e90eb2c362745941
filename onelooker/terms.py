"""Terms: names and values of functions (point 7)."""

from onelooker.errors import BadTerm
from onelooker.names import is_name

MOST_DEPTH = 4


def _is_term_within(value, room):
    """True if the value is a term of at most this depth."""
    # The room bounds the recursion, because any value may be asked about, however deep it is.
    if room == 0 or not isinstance(value, tuple) or not 1 <= len(value) <= 3:
        return False
    return is_name(value[0]) and all([_is_term_within(part, room - 1) for part in value[1:]])


def is_term(value):
    """True if the value is a term."""
    return _is_term_within(value, MOST_DEPTH)


def check_term(term):
    """Raises BadTerm unless the value is a term."""
    if not is_term(term):
        raise BadTerm(term)


def is_plain(term):
    """True if the term is a name."""
    return len(term) == 1


def depth(term):
    """The depth of a term; a name has depth 1."""
    return 1 + max([depth(part) for part in term[1:]], default=0)


def term_rank(term):
    """A tuple by which terms are ordered: depth, first item, number of arguments, their ranks."""
    return (depth(term), term[0], len(term) - 1, *[term_rank(part) for part in term[1:]])


def _occurrences(term):
    """The subterms of a term, the term included, as often as they occur."""
    return [term] + [part for argument in term[1:] for part in _occurrences(argument)]


def subterms(term):
    """The different subterms in the order of terms, the term included."""
    different = list({part: True for part in _occurrences(term)})
    return tuple(sorted(different, key=term_rank))


def term_names(term):
    """The different names in a term, ascending."""
    return tuple(sorted({part[0] for part in _occurrences(term) if is_plain(part)}))


def renamed_term(term, mapping):
    """The term with its names replaced; functions stay."""
    if is_plain(term):
        return (mapping.get(term[0], term[0]),)
    return (term[0], *[renamed_term(part, mapping) for part in term[1:]])
