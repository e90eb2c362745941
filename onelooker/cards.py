"""Cards, which describe theories, and the literals that they allow (points 8 and 9)."""

from onelooker.errors import BadCard, BadLiteral, NoOwner
from onelooker.names import is_ascending, is_cell, is_int, is_name, renamed_marks
from onelooker.terms import is_plain, is_term, term_names

MOST_ROWS = 64
MOST_WORDS = 6
MOST_KINDS = 3
MOST_OF_KIND = 2


def is_whole(value, least, most):
    """True if the value is an integer from least to most and no truth value."""
    return is_int(value) and least <= value <= most


def _is_row(value, width):
    """True if the value can stand as a row of a rows card."""
    if not isinstance(value, tuple) or len(value) != 2:
        return False
    cell, words = value
    if not is_cell(cell, width) or not isinstance(words, tuple):
        return False
    return all([is_name(text) for text in words]) and is_ascending(words)


def _are_rows(value, width):
    """True if the value is the rows of a rows card."""
    if not isinstance(value, tuple) or not 1 <= len(value) <= MOST_ROWS:
        return False
    if not all([_is_row(row, width) for row in value]) or not is_ascending(value):
        return False
    return len({text for _, words in value for text in words}) <= MOST_WORDS


def _is_kind_count(value):
    """True if the value is a pair of a kind and its count."""
    if not isinstance(value, tuple) or len(value) != 2:
        return False
    return is_name(value[0]) and is_whole(value[1], 0, MOST_OF_KIND)


def _are_counts(value):
    """True if the value is the counts of a kinds card."""
    if not isinstance(value, tuple) or not 1 <= len(value) <= MOST_KINDS:
        return False
    if not all([_is_kind_count(pair) for pair in value]):
        return False
    counts = [count for _, count in value]
    # Without an endless kind the counts add up to the size, and no finite size is over 2.
    return is_ascending([kind for kind, _ in value]) and (0 in counts or sum(counts) <= 2)


def _is_card(value, width):
    """True if the value is a card for a problem with so many names."""
    if not isinstance(value, tuple) or len(value) not in (1, 2):
        return False
    if len(value) == 1:
        return value[0] in ("below", "terms")
    if value[0] == "rows":
        return _are_rows(value[1], width)
    if value[0] == "kinds":
        return _are_counts(value[1])
    return value[0] == "ring" and is_whole(value[1], 2, 3)


def check_card(card, width):
    """Raises BadCard unless the value is a card for a problem with so many names."""
    if not _is_card(card, width):
        raise BadCard(card)


def renamed_card(card, names, mapping):
    """The card after renaming; only the cells of a rows card depend on the names."""
    if card[0] != "rows":
        return card
    rows = [((size, renamed_marks(names, marks, mapping)), words) for (size, marks), words in card[1]]
    return ("rows", tuple(sorted(rows)))


def _is_shared_atom(atom, names):
    """True if a tuple of at least two items, the first one empty, is a shared atom."""
    if atom[1] == "same":
        return len(atom) == 4 and atom[2] in names and atom[3] in names and atom[2] < atom[3]
    return atom[1] == "size" and len(atom) == 3 and is_whole(atom[2], 1, 2)


def _is_term_over(value, names):
    """True if the value is a term over the names."""
    return is_term(value) and all([name in names for name in term_names(value)])


def _are_equal_terms(first, second, names):
    """True if two values are the terms of an equal atom."""
    if not _is_term_over(first, names) or not _is_term_over(second, names):
        return False
    return first < second and not (is_plain(first) and is_plain(second))


def _is_own_atom(atom, names, card):
    """True if a tuple of at least two items is an atom of a theory with this card."""
    form, parts = atom[1], atom[2:]
    if card[0] == "rows":
        return form == "word" and len(parts) == 1 and is_name(parts[0])
    if card[0] == "terms":
        return form == "equal" and len(parts) == 2 and _are_equal_terms(parts[0], parts[1], names)
    if len(parts) < 2 or parts[0] not in names:
        return False
    if card[0] == "kinds":
        return form == "kind" and len(parts) == 2 and parts[1] in [kind for kind, _ in card[1]]
    if card[0] == "below":
        return form == "below" and len(parts) == 2 and parts[1] in names
    return form == "turn" and len(parts) == 3 and parts[1] in names and is_whole(parts[2], 0, card[1] - 1)


def check_literal(literal, names, theories):
    """Raises BadLiteral or NoOwner unless the value is a literal over the names and theories."""
    if not isinstance(literal, tuple) or len(literal) != 2:
        raise BadLiteral(literal)
    atom, sign = literal
    if not isinstance(atom, tuple) or not isinstance(sign, bool):
        raise BadLiteral(literal)
    if len(atom) < 2 or not isinstance(atom[0], str):
        raise BadLiteral(literal)
    owner = atom[0]
    if owner == "":
        right = _is_shared_atom(atom, names)
    elif owner in theories:
        right = _is_own_atom(atom, names, theories[owner])
    else:
        raise NoOwner(owner)
    if not right:
        raise BadLiteral(literal)
