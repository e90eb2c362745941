"""Conflicts and corrections of problems, and hitting sets (points 163 to 165)."""

from onelooker.errors import Stands, TooMany
from onelooker.standing import has_model

MOST_ASKED = 8


def _check_few(problem):
    """Raises TooMany if a problem has too many clauses to go through all sets of them."""
    if len(problem) > MOST_ASKED:
        raise TooMany("clauses")


def _subsets(labels):
    """All sets of labels as ascending tuples, the smaller ones first, and equally large ones ascending."""
    found = [()]
    for label in labels:
        found = found + [(*some, label) for some in found]
    return sorted(found, key=lambda some: (len(some), some))


def _contains_one(some, sets):
    """True if one of the sets lies within a set of labels."""
    return any([all([label in some for label in each]) for each in sets])


def _at_most(sets, most):
    """Those of the sets that have at most so many labels, ascending."""
    return sorted([some for some in sets if most is None or len(some) <= most])


def conflicts(problem, *, most=None):
    """The conflicts of a problem, ascending."""
    _check_few(problem)
    found = []
    for some in _subsets(problem.labels):
        if not _contains_one(some, found) and not has_model(problem.only(some)):
            found.append(some)
    return _at_most(found, most)


def walk_corrections(problem):
    """Generates the corrections of a problem, those with fewer labels first, equally many ascending."""
    _check_few(problem)
    found = []
    for some in _subsets(problem.labels):
        left = [label for label in problem.labels if label not in some]
        if not _contains_one(some, found) and has_model(problem.only(left)):
            found.append(some)
            yield some


def corrections(problem, *, most=None):
    """The corrections of a problem, ascending."""
    return _at_most(list(walk_corrections(problem)), most)


def first_conflict(problem):
    """The labels that are left when each one is left out, from the last one on, if the others have no model."""
    if has_model(problem):
        raise Stands()
    left = problem
    for label in reversed(list(problem.labels)):
        others = left.drop(label)
        if not has_model(others):
            left = others
    return left.labels


def hitting_sets(sets):
    """The least hitting sets of some sets of labels, ascending."""
    labels = sorted({label for each in sets for label in each})
    if len(labels) > MOST_ASKED:
        raise TooMany("labels")
    found = []
    for some in _subsets(labels):
        hits = all([any([label in some for label in each]) for each in sets])
        if hits and not _contains_one(some, found):
            found.append(some)
    return sorted(found)
