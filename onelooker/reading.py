"""Reading terms, literals, clauses, cards and problems from their written forms (points 28 to 30).

Each reader takes a text apart more freely than it must. It then checks the value that it found, and compares the
written form of that value with the text, so that nothing but the written form is accepted.
"""

from onelooker.cards import check_card, check_literal
from onelooker.errors import BadCard, BadLiteral, BadName, BadText, LookerError, NoOwner
from onelooker.literals import MOST_LITERALS
from onelooker.names import ENDLESS, check_names, is_ascending
from onelooker.problems import Problem
from onelooker.scanning import read_number, tokens
from onelooker.terms import MOST_DEPTH, is_term
from onelooker.writing import write_card, write_literal, write_problem, write_term


def _arguments_at(found, at, room, line):
    """The arguments from an index of the tokens on, and the index behind the sign that closes them."""
    first, end = _term_at(found, at, room, line)
    arguments = [first]
    while found[end:end + 1] == [","]:
        following, end = _term_at(found, end + 1, room, line)
        arguments.append(following)
    return arguments, end + 1


def _term_at(found, at, room, line):
    """What looks like a term of at most this depth at an index of the tokens, and the index behind it."""
    # The room bounds the recursion: a text may have many more parentheses than a term.
    if room == 0 or at == len(found):
        raise BadText(line)
    if found[at + 1:at + 2] != ["("]:
        return (found[at],), at + 1
    arguments, end = _arguments_at(found, at + 2, room - 1, line)
    return (found[at], *arguments), end


def _term(found, line):
    """What looks like the term that the tokens make up."""
    term, _ = _term_at(found, 0, MOST_DEPTH, line)
    return term


def read_term(text, *, line=1):
    """The term with this written form."""
    term = _term(tokens(text, line=line), line)
    if not is_term(term) or write_term(term) != text:
        raise BadText(line)
    return term


def _shared_atom(found, line):
    """The shared atom that the tokens make up."""
    if len(found) != 3:
        raise BadText(line)
    if found[0] == "size":
        return ("", "size", read_number(found[2], line=line))
    return ("", "same", found[0], found[2])


def _own_parts(found, line):
    """The form and the parts of the own atom that the tokens behind the owner make up."""
    if len(found) == 1:
        return ("word", found[0])
    if len(found) == 3 and found[1] == "is":
        return ("kind", found[0], found[2])
    if len(found) == 3 and found[1] == "<":
        return ("below", found[0], found[2])
    if len(found) == 5 and found[3] == "+":
        return ("turn", found[2], found[0], read_number(found[4], line=line))
    if "=" not in found:
        raise BadText(line)
    at = found.index("=")
    return ("equal", _term(found[:at], line), _term(found[at + 1:], line))


def _atom(found, line):
    """The atom that the tokens make up."""
    if found[1:2] == [":"]:
        return (found[0], *_own_parts(found[2:], line))
    return _shared_atom(found, line)


def read_literal(text, names, theories, *, line=1):
    """The literal over the names and theories with this written form."""
    found = tokens(text, line=line)
    denied = found[:1] == ["not"]
    literal = (_atom(found[1:] if denied else found, line), not denied)
    try:
        check_literal(literal, names, theories)
    except (BadLiteral, NoOwner) as error:
        raise BadText(line) from error
    if write_literal(literal) != text:
        raise BadText(line)
    return literal


def read_clause(text, names, theories, *, line=1, most=MOST_LITERALS):
    """The clause over the names and theories with this written form."""
    parts = [] if text == "false" else text.split(" or ")
    literals = tuple([read_literal(part, names, theories, line=line) for part in parts])
    if len(literals) > most or not is_ascending(literals):
        raise BadText(line)
    return literals


def _counts(pieces, line):
    """The counts of a kinds card from their written pairs."""
    found = []
    for piece in pieces:
        kind, _, count = piece.partition(":")
        found.append((kind, read_number(count, line=line)))
    return tuple(found)


def _rows(pieces, line):
    """The rows of a rows card from their written forms."""
    found = []
    for piece in pieces:
        size, _, rest = piece.partition(":")
        digits, _, words = rest.partition(":")
        marks = tuple([read_number(digit, line=line) for digit in digits])
        cell = (read_number(size, most=ENDLESS, line=line), marks)
        found.append((cell, tuple(words.split(",")) if words != "" else ()))
    return tuple(found)


def _card(text, line):
    """What looks like the card with this written form."""
    pieces = text.split(" ")
    if pieces[0] == "kinds":
        return ("kinds", _counts(pieces[1:], line))
    if pieces[0] == "rows":
        return ("rows", _rows(pieces[1:], line))
    if len(pieces) == 2:
        return (pieces[0], read_number(pieces[1], line=line))
    return (pieces[0],)


def read_card(text, width, *, line=1):
    """The card for a problem with so many names with this written form."""
    card = _card(text, line)
    try:
        check_card(card, width)
    except BadCard as error:
        raise BadText(line) from error
    if write_card(card) != text:
        raise BadText(line)
    return card


def _read_names(text):
    """The names in the first line of a problem."""
    names = tuple(text.split(" ")[1:])
    try:
        check_names(names)
    except BadName as error:
        raise BadText(1) from error
    return names


def _with_line(problem, text, line):
    """The problem with what one more line of its written form adds."""
    theories, clauses = problem.theories(), problem.clauses()
    head, _, rest = text.partition(" ")
    if head == "theory":
        owner, _, card = rest.partition(" ")
        theories[owner] = read_card(card, len(problem.names), line=line)
    else:
        label = read_number(head[:-1], line=line)
        clauses[label] = read_clause(rest, problem.names, theories, line=line)
    try:
        return Problem(problem.names, theories, clauses)
    except LookerError as error:
        raise BadText(line) from error


def read_problem(text):
    """The problem with this written form."""
    rows = text.split("\n")
    problem = Problem(_read_names(rows[0]), {}, {})
    for line in range(1, len(rows) + 1):
        if line > 1:
            problem = _with_line(problem, rows[line - 1], line)
        # A line that is in the wrong place, or there twice, makes a problem that is written otherwise.
        if write_problem(problem) != "\n".join(rows[:line]):
            raise BadText(line)
    return problem
