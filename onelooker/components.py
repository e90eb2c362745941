"""Components of problems, and problems for sets of cells (points 166 and 167)."""

from onelooker.errors import NamesMismatch
from onelooker.literals import clause_of, negated, owner_of, same, size_at_most
from onelooker.names import ENDLESS, check_cell, pairs
from onelooker.problems import Problem
from onelooker.standing import standing


def _owners_in(clauses):
    """The owners of own literals in some clauses, ascending."""
    return sorted({owner_of(literal) for literals in clauses for literal in literals if owner_of(literal) != ""})


def _are_linked(problem, label, labels):
    """True if the clause of a label has own literals of an owner that one of some clauses has."""
    owners = _owners_in([problem[other] for other in labels])
    return any([owner in owners for owner in _owners_in([problem[label]])])


def components(problem):
    """The components of a problem, ascending."""
    found = []
    for label in problem.labels:
        linked = [labels for labels in found if _are_linked(problem, label, labels)]
        joined = tuple(sorted([label, *[other for labels in linked for other in labels]]))
        found = [*[labels for labels in found if labels not in linked], joined]
    return sorted(found)


def _with_theories_of(problem, labels, owners):
    """The problem with the clauses of some labels and the theories of some owners alone."""
    return Problem(problem.names, {owner: problem.card(owner) for owner in owners},
                   {label: problem[label] for label in labels})


def component_problems(problem):
    """The component problems: those with clauses in the order of the components, then those without by owner."""
    owners = _owners_in([problem[label] for label in problem.labels])
    with_clauses = [_with_theories_of(problem, labels, _owners_in([problem[label] for label in labels]))
                    for labels in components(problem)]
    return with_clauses + [_with_theories_of(problem, (), [owner]) for owner in problem.owners if owner not in owners]


def clause_against(names, cell):
    """The clause that fails at a cell and at no other one."""
    check_cell(cell, len(names))
    size, marks = cell
    literals = []
    for low, high in pairs(names):
        together = marks[names.index(low)] == marks[names.index(high)]
        literals.append(negated(same(low, high)) if together else same(low, high))
    if size < ENDLESS:
        literals.append(negated(size_at_most(size)))
    if size > 1:
        literals.append(size_at_most(size - 1))
    return clause_of(literals)


def problem_for(names, cells):
    """The problem that stands at exactly the cells of a set."""
    if cells.width != len(names):
        raise NamesMismatch()
    clauses = [clause_against(names, cell) for cell in (~cells).rows]
    return Problem.of(names, *clauses)


def shadow(problem):
    """The problem without theories that stands at the cells at which a problem stands."""
    return problem_for(problem.names, standing(problem))
