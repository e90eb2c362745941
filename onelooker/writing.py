"""The written forms of terms, literals, clauses, cards and problems (points 23 to 27)."""

from onelooker.literals import negated
from onelooker.terms import is_plain


def write_term(term):
    """The written form of a term, without spaces."""
    if is_plain(term):
        return term[0]
    arguments = ",".join([write_term(part) for part in term[1:]])
    return f"{term[0]}({arguments})"


def _written_own_parts(form, parts):
    """What follows the owner in the written form of a positive own literal."""
    if form == "word":
        return parts[0]
    if form == "kind":
        return f"{parts[0]} is {parts[1]}"
    if form == "below":
        return f"{parts[0]} < {parts[1]}"
    if form == "turn":
        return f"{parts[1]} = {parts[0]} + {parts[2]}"
    return f"{write_term(parts[0])} = {write_term(parts[1])}"


def write_literal(literal):
    """The written form of a literal."""
    atom, sign = literal
    if not sign:
        return f"not {write_literal(negated(literal))}"
    if atom[1] == "same":
        return f"{atom[2]} = {atom[3]}"
    if atom[1] == "size":
        return f"size <= {atom[2]}"
    return f"{atom[0]}: {_written_own_parts(atom[1], atom[2:])}"


def write_clause(clause):
    """The written form of a clause with any number of literals."""
    if len(clause) == 0:
        return "false"
    return " or ".join([write_literal(literal) for literal in clause])


def _written_row(row):
    """The written form of a row of a rows card."""
    (size, marks), words = row
    digits = "".join([str(mark) for mark in marks])
    listed = ",".join(words)
    return f"{size}:{digits}:{listed}"


def write_card(card):
    """The written form of a card."""
    if len(card) == 1:
        return card[0]
    if card[0] == "ring":
        return f"ring {card[1]}"
    if card[0] == "kinds":
        return " ".join(["kinds", *[f"{kind}:{count}" for kind, count in card[1]]])
    return " ".join(["rows", *[_written_row(row) for row in card[1]]])


def written_lines(problem):
    """Generates the lines of the written form of a problem."""
    yield " ".join(["names", *problem.names])
    for owner in problem.owners:
        yield f"theory {owner} {write_card(problem.card(owner))}"
    for label in problem.labels:
        yield f"{label}. {write_clause(problem[label])}"


def write_problem(problem):
    """The written form of a problem."""
    return "\n".join(written_lines(problem))
