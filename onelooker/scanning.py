"""Cutting texts into tokens, and reading numbers (point 22)."""

from onelooker.errors import BadText


def _is_digit(sign):
    """True if a single sign is a digit from 0 to 9; isdigit accepts more."""
    return "0" <= sign <= "9"


def _is_word_sign(sign):
    """True if a single sign belongs to a run of letters and digits."""
    return "a" <= sign <= "z" or _is_digit(sign)


def _end_of_piece(text, at, line):
    """The index behind the token or the space that begins at an index."""
    end = at
    while end < len(text) and _is_word_sign(text[end]):
        end += 1
    if end > at:
        return end
    if text[at:at + 2] == "<=":
        return at + 2
    if text[at] not in "(),.:=<+ ":
        raise BadText(line)
    return at + 1


def tokens(text, *, line=1):
    """The tokens of a text; raises BadText if a character may not occur."""
    found = []
    at = 0
    while at < len(text):
        end = _end_of_piece(text, at, line)
        if text[at] != " ":
            found.append(text[at:end])
        at = end
    return found


def _is_decimal(text):
    """True if the text is a number as it is written: digits, and no zero in front of others."""
    if text == "" or (text[0] == "0" and text != "0"):
        return False
    return all([_is_digit(sign) for sign in text])


def read_number(text, *, least=0, most=999, line=1):
    """The integer from least to most that the text writes; raises BadText if there is none."""
    # Python refuses to convert very long texts, so those with more digits than most has go first.
    if len(text) > len(str(most)) or not _is_decimal(text):
        raise BadText(line)
    number = int(text)
    if not least <= number <= most:
        raise BadText(line)
    return number
