"""Trimming, merging, joining, renaming and tightening certificates (points 81 to 87)."""

from onelooker.cards import is_whole
from onelooker.certificates import Certificate
from onelooker.checking import card_of, row_clause, row_clauses
from onelooker.deciders import least_clash
from onelooker.errors import BadRow
from onelooker.literals import clause_of, negated, negations, owner_of, renamed_literal


def _renumbered(row, places):
    """The row with its indexes replaced, if it is a resolve row."""
    if row[0] != "resolve":
        return row
    return ("resolve", places[row[1]], places[row[2]], row[3])


def _rested_on(rows, end):
    """The indexes of the rows on which a row rests, ascending; its own comes last."""
    kept = {end: True}
    for index in range(end, -1, -1):
        if index in kept and rows[index][0] == "resolve":
            kept[rows[index][1]] = True
            kept[rows[index][2]] = True
    return sorted(list(kept))


def _cut_to(rows, end):
    """The certificate of the rows on which a row rests."""
    kept = _rested_on(rows, end)
    places = {index: place for place, index in enumerate(kept)}
    return Certificate([_renumbered(rows[index], places) for index in kept])


def trimmed(certificate, *, end=None):
    """The certificate with only those rows on which one row, or the last one, rests."""
    if end is None and len(certificate) == 0:
        return Certificate([])
    index = certificate.last if end is None else end
    if not is_whole(index, 0, certificate.last):
        raise BadRow(end)
    return _cut_to(certificate.rows, index)


def merged(certificate):
    """The certificate with equal rows only once, trimmed to its last row."""
    if len(certificate) == 0:
        return Certificate([])
    collected = {}
    places = []
    for row in certificate.rows:
        places.append(collected.setdefault(_renumbered(row, places), len(collected)))
    return _cut_to(list(collected), places[-1])


def joined(first, second, atom):
    """The sum of two certificates, and a row that resolves their last rows on an atom."""
    if len(first) == 0 or len(second) == 0:
        raise BadRow(0)
    both = first + second
    return both.resolve(first.last, both.last, atom)


def leans(certificate):
    """The labels of the given rows, ascending."""
    return tuple(sorted({row[1] for row in certificate.rows if row[0] == "given"}))


def theory_owners(certificate):
    """The owners of the theory rows, ascending."""
    return tuple(sorted({row[1] for row in certificate.rows if row[0] == "theory"}))


def _renamed_row(row, mapping):
    """The row with the names in its clause or its atom replaced."""
    if row[0] == "theory":
        return ("theory", row[1], clause_of([renamed_literal(literal, mapping) for literal in row[2]]))
    if row[0] == "resolve":
        atom, _ = renamed_literal((row[3], True), mapping)
        return ("resolve", row[1], row[2], atom)
    return row


def renamed_certificate(certificate, mapping):
    """The certificate with its names replaced."""
    return Certificate([_renamed_row(row, mapping) for row in certificate.rows])


def relabelled(certificate, mapping):
    """The certificate with the labels of its given rows replaced."""
    return Certificate([("given", mapping.get(row[1], row[1])) if row[0] == "given" else row
                        for row in certificate.rows])


def _discharged_row(row, assumptions):
    """The row, or what replaces it if it gives an assumed literal."""
    if row[0] != "given" or row[1] not in assumptions:
        return row
    literal = assumptions[row[1]]
    return ("theory", owner_of(literal), clause_of([literal, negated(literal)]))


def discharged(certificate, assumptions):
    """The certificate without given rows for the labels of assumed literals."""
    return Certificate([_discharged_row(row, assumptions) for row in certificate.rows])


def _tight_row(problem, row):
    """The row; if it is a theory row, with those literals alone that a least clash denies."""
    if row[0] != "theory":
        return row
    least = least_clash(card_of(problem, row[1]), problem.names, negations(row[2]))
    return ("theory", row[1], negations(least))


def _stand_in(row, clauses):
    """The index of the row that stands for a renumbered row because that has nothing to resolve, or None."""
    if row[0] != "resolve":
        return None
    _, first, second, atom = row
    if (atom, True) not in clauses[first]:
        return first
    return second if (atom, False) not in clauses[second] else None


def tightened(problem, certificate):
    """The certificate with least theory rows, and without resolve rows that these make needless."""
    if len(row_clauses(problem, certificate)) == 0:
        return Certificate([])
    rows = []
    clauses = []
    places = []
    for row in certificate.rows:
        tight = _renumbered(_tight_row(problem, row), places)
        place = _stand_in(tight, clauses)
        if place is None:
            place = len(rows)
            clauses.append(row_clause(problem, tight, clauses))
            rows.append(tight)
        places.append(place)
    return _cut_to(rows, places[-1])
