"""The journal of a session as lines in columns (point 179)."""

from onelooker.writing import write_clause


def _line(number, row):
    """The line of a row with its number."""
    word, label, clause = row
    line = f"{number:>4} {word:<5}"
    return line if word == "undo" else f"{line} {label:>3} {write_clause(clause)}"


def journal_lines(session):
    """The lines of the journal of a session."""
    return [_line(number, row) for number, row in enumerate(session.rows, start=1)]
