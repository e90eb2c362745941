"""The written forms of certificates (points 88 and 89)."""

from onelooker.certificates import Certificate
from onelooker.errors import BadText
from onelooker.problems import MOST_LABEL
from onelooker.reading import read_clause, read_literal
from onelooker.scanning import read_number
from onelooker.writing import write_clause, write_literal


def _written_row(row):
    """The written form of a row, without its index."""
    if row[0] == "given":
        return f"given {row[1]}"
    if row[0] == "resolve":
        atom = write_literal((row[3], True))
        return f"resolve {row[1]} {row[2]} on {atom}"
    head = "shared" if row[1] == "" else f"theory {row[1]}"
    return f"{head}: {write_clause(row[2])}"


def certificate_lines(certificate):
    """Generates the lines of the written form of a certificate."""
    for index, row in enumerate(certificate.rows):
        yield f"{index}. {_written_row(row)}"


def write_certificate(certificate):
    """The written form of a certificate."""
    return "\n".join(certificate_lines(certificate))


def _read_resolve(rest, names, theories, index):
    """The resolve row with this index, from what follows its first word."""
    line = index + 1
    first, _, behind = rest.partition(" ")
    second, _, written = behind.partition(" on ")
    atom, _ = read_literal(written, names, theories, line=line)
    return ("resolve", read_number(first, most=index - 1, line=line),
            read_number(second, most=index - 1, line=line), atom)


def _read_theory(text, names, theories, index):
    """The theory row with this index, from its text."""
    line = index + 1
    head, _, written = text.partition(": ")
    _, _, owner = head.partition(" ")
    if owner != "" and owner not in theories:
        raise BadText(line)
    return ("theory", owner, read_clause(written, names, theories, line=line, most=len(written)))


def _read_row(text, names, theories, index):
    """What looks like the row with this index and this text."""
    word, _, rest = text.partition(" ")
    if word == "given":
        return ("given", read_number(rest, least=1, most=MOST_LABEL, line=index + 1))
    if word == "resolve":
        return _read_resolve(rest, names, theories, index)
    return _read_theory(text, names, theories, index)


def read_certificate(text, names, theories):
    """The certificate with this written form."""
    rows = []
    lines = [] if text == "" else text.split("\n")
    for index, line in enumerate(lines):
        _, _, rest = line.partition(" ")
        row = _read_row(rest, names, theories, index)
        # What a reader took for a row is written otherwise if it left out or changed anything.
        if f"{index}. {_written_row(row)}" != line:
            raise BadText(index + 1)
        rows.append(row)
    return Certificate(rows)
