"""Slow ways to find what follows from problems, by going through all models, and samples to try them on."""

import itertools

from onelooker.problems import Problem
from slow import all_cells, random_card, random_literals, random_problem, shared_of, shared_truth, theory_models

TABLES = ("rows", "kinds", "below", "ring")


def all_models(names, theories):
    """All models of theories, none of them with terms: a cell and the set of the own atoms that hold."""
    found = []
    for cell in all_cells(len(names)):
        parts = [theory_models(owner, theories[owner], names, cell) for owner in sorted(theories)]
        found += [(cell, frozenset().union(*some)) for some in itertools.product(*parts)]
    return found


def holds_in(names, model, clause):
    """True if some literal of a clause holds in a model that all_models gives."""
    cell, atoms = model
    return any(shared_truth(names, cell, (atom, sign)) if atom[0] == "" else (atom in atoms) == sign
               for atom, sign in clause)


def satisfying(problem, labels=None):
    """The models in which the clauses of some labels hold, or all clauses."""
    clauses = [problem[label] for label in (problem.labels if labels is None else labels)]
    return [model for model in all_models(problem.names, problem.theories())
            if all(holds_in(problem.names, model, clause) for clause in clauses)]


def slow_follows(problem, clause, labels=None):
    """True if a clause holds in every model of the problem, or of the clauses of some labels alone."""
    return all(holds_in(problem.names, model, clause) for model in satisfying(problem, labels))


def slow_stands(problem, labels=None):
    """True if there is a model of the problem, or of the clauses of some labels alone."""
    return satisfying(problem, labels) != []


def table_problem(source, **more):
    """Some problem without terms whose models are not too many to go through."""
    return random_problem(source, width=2, forms=TABLES, **more)


def tight_problem(source, *, clauses=5, longest=2, width=2, most=2, forms=TABLES):
    """Some problem with few different literals, so that often clauses follow from others, or do not stand together."""
    names = ("a", "b", "c")[:source.randint(0, width)]
    theories = {owner: random_card(source, len(names), forms) for owner in source.sample("opq", source.randint(0, most))}
    literals = [(atom, source.random() < 0.5) for atom, _ in source.sample(shared_of(names), 2)]
    for owner, card in theories.items():
        literals += random_literals(source, owner, card, names, 2)
    literals += [(atom, not sign) for atom, sign in literals]
    return Problem(names, theories, {
        label: tuple(source.choice(literals) for _ in range(source.randint(1, longest)))
        for label in source.sample(range(1, 12), source.randint(0, clauses))})


def random_clause(source, problem, longest=3):
    """Some clause over the names and theories of a problem, often with literals of the problem or their negations."""
    literals = source.sample(shared_of(problem.names), 2)
    for owner in problem.owners:
        literals += random_literals(source, owner, problem.card(owner), problem.names, 2)
    literals += [(atom, source.random() < 0.6) for label in problem for atom, _ in problem[label]]
    return tuple(source.choice(literals) for _ in range(source.randint(1, longest)))


def forty_terms(owner, more=0):
    """Positive literals over the name a, each about one compound term of its own; there are 40 and more of them."""
    terms = [(f"{letter}{number}", ("a",)) for letter in "fghi" for number in range(10)]
    terms += [(f"k{number}", ("a",)) for number in range(more)]
    return [((owner, "equal", ("a",), term), True) for term in terms]
