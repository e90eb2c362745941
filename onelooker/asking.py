"""What follows from problems, and problems that are alike (points 156 to 162)."""

from onelooker.cells import Cells
from onelooker.deciding import decide
from onelooker.errors import BadClause, BadText, CardMismatch, NamesMismatch, NoLabel, NotComplete, Stands
from onelooker.literals import negated, shared_literals
from onelooker.problems import Problem, stored_clause
from onelooker.reading import read_clause
from onelooker.standing import has_model, least_model, models, standing
from onelooker.trimming import discharged


def _checked(problem, clause):
    """The clause as a problem stores it; raises an error if it is wrong."""
    return stored_clause(clause, problem.names, problem.theories())


def _denials(problem, literals):
    """The negations of ascending literals, by the labels under which they are added."""
    found = {}
    label = 1
    for literal in literals:
        while label in problem:
            label += 1
        found[label] = negated(literal)
        label += 1
    return found


def _denied(problem, literals):
    """The problem when the clause of these literals is denied."""
    denials = _denials(problem, literals)
    added = {label: (denials[label],) for label in denials}
    return Problem(problem.names, problem.theories(), {**problem.clauses(), **added})


def follows(problem, clause, *, without=()):
    """True if the clause follows from the problem without the clauses of some labels."""
    literals = _checked(problem, clause)
    for label in without:
        if label not in problem:
            raise NoLabel(label)
    left = problem.only([kept for kept in problem.labels if kept not in without])
    return not has_model(_denied(left, literals))


def follows_text(problem, text, *, without=()):
    """True if the clause that a text writes follows from the problem without the clauses of some labels."""
    try:
        clause = read_clause(text, problem.names, problem.theories())
    except BadText as error:
        raise BadClause(text) from error
    return follows(problem, clause, without=without)


def counter_models(problem, clause):
    """Generates the models of the problem in which the clause does not hold, by cells ascending."""
    denied = _denied(problem, _checked(problem, clause))
    yield from models(denied)


def certificate_for(problem, clause, policy):
    """A certificate whose conclusion has literals of the clause alone."""
    literals = _checked(problem, clause)
    outcome = decide(_denied(problem, literals), policy)
    if outcome.verdict == "model":
        raise Stands()
    if outcome.verdict == "open":
        raise NotComplete()
    return discharged(outcome.certificate, _denials(problem, literals))


def facts(problem):
    """The shared literals that hold at every cell at which the problem stands, ascending."""
    cells = standing(problem)
    return [literal for literal in shared_literals(problem.names)
            if cells.within(Cells.where(problem.names, [literal]))]


def sharpened(problem, clause):
    """The literals of a clause that follows which are left when each one is left out, in order, if it can be."""
    kept = _checked(problem, clause)
    if has_model(_denied(problem, kept)):
        raise Stands()
    for literal in _checked(problem, clause):
        others = tuple([other for other in kept if other != literal])
        if not has_model(_denied(problem, others)):
            kept = others
    return kept


def slimmed(problem):
    """The problem without the clauses that follow from the others, dropped one by one from the last label on."""
    left = problem
    for label in reversed(list(problem.labels)):
        others = left.drop(label)
        if not has_model(_denied(others, problem[label])):
            left = others
    return left


def _check_comparable(first, second):
    """Raises an error unless two problems have the same names and theories."""
    if first.names != second.names:
        raise NamesMismatch()
    low, high = first.theories(), second.theories()
    for owner in sorted(set(list(first.owners) + list(second.owners))):
        if low.get(owner) != high.get(owner):
            raise CardMismatch(owner)


def telling_model(first, second):
    """A model that satisfies exactly one of two problems; None if they are alike."""
    _check_comparable(first, second)
    for problem, other in ((first, second), (second, first)):
        for label in other.labels:
            model = least_model(_denied(problem, other[label]))
            if model is not None:
                return model
    return None


def alike(first, second):
    """True if each clause of either problem follows from the other one."""
    return telling_model(first, second) is None
