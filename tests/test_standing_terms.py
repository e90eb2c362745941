"""Problems with terms theories whose literals are told, denied, or follow from others (points 12, 13, 93 and 94)."""

import itertools
import random

from helper import LookerCase
from onelooker.literals import equal, negated, same, word
from onelooker.names import cells_over
from onelooker.problems import Problem
from onelooker.standing import fitting_picks, has_model, least_model, models, standing, stands_at
from slow import random_card, random_literals, slow_picks

A, B = ("a",), ("b",)
WORDS = [word("r", text) for text in "pqst"]


def differ(first, second):
    """The literal that two terms differ; a shared one if both are names."""
    if len(first) == len(second) == 1:
        return negated(same(first[0], second[0]))
    return negated(equal("t", first, second))


def denied_with_arguments(source, pool):
    """Two literals, the first of which cannot hold without the second: f of two terms differs, and so do these."""
    first, second = source.sample(pool, 2)
    function = source.choice("fh")
    return differ((function, first), (function, second)), differ(first, second)


def words_card(source, names):
    """A rows card with a row for each single word at each cell, and perhaps rows with two words."""
    return ("rows", tuple(sorted({(cell, tuple(words)) for cell in cells_over(len(names))
                                  for words in [*"pqst", source.choice(("p", "ps", "qt"))]})))


def nested_problem(source):
    """Some problem about nested terms; in many, the words deny each pick, but only both of their clauses together."""
    names = ("a", "b", "c")[:source.randint(2, 3)]
    flat = [(name,) for name in names]
    pool = flat + [("f", term) for term in flat] + [("f", ("f", term)) for term in flat] + [("g", term) for term in flat]
    pairs = [pair for pair in itertools.combinations(pool, 2) if len(pair[0]) + len(pair[1]) > 2]
    equals = [equal("t", *pair) for pair in source.sample(pairs, 7)]
    some = [(source.choice(equals)[0], source.random() < 0.5) for _ in range(6)]
    first, then = denied_with_arguments(source, pool)
    other, last = denied_with_arguments(source, pool)
    clauses = {11: source.choice([(first,), (first, some[0])]), 12: (then, some[1]), 13: (other, some[2]),
               14: (last, first), 20: tuple(WORDS[:2]), 21: tuple(WORDS[2:])}
    for label in range(source.randint(0, 2)):
        clauses[label + 1] = tuple(source.sample(some, source.randint(1, 3)))
    return Problem(names, {"t": ("terms",), "r": words_card(source, names)}, clauses)


def mixed_problem(source):
    """Some problem about nested terms and one other theory, whose clauses are drawn at random."""
    names = ("a", "b", "c")[:source.randint(1, 3)]
    flat = [(name,) for name in names]
    pool = flat + [("f", term) for term in flat] + [("g", *source.choices(flat, k=2))]
    pool += [("f", term) for term in pool[len(flat):]]
    pairs = [pair for pair in itertools.combinations(dict.fromkeys(pool), 2) if len(pair[0]) + len(pair[1]) > 2]
    card = random_card(source, len(names), ("rows", "kinds", "below"))
    literals = [(equal("t", *source.choice(pairs))[0], source.random() < 0.5) for _ in range(6)]
    literals += random_literals(source, "r", card, names, 3)
    return Problem(names, {"t": ("terms",), "r": card}, {
        label: tuple(source.choices(literals, k=source.randint(1, 3))) for label in range(1, source.randint(3, 7))})


class NestedTermsTest(LookerCase):

    def check(self, problem):
        """The answers are those that going through all picks gives; returns whether the problem stands."""
        stands = {}
        for cell in cells_over(len(problem.names)):
            stands[cell] = slow_picks(problem, cell)
            self.assertEqual(list(fitting_picks(problem, cell)), stands[cell])
            self.assertEqual(stands_at(problem, cell) is not None, stands[cell] != [])
        cells = tuple(cell for cell in stands if stands[cell])
        self.assertEqual(standing(problem).rows, cells)
        self.assertIs(has_model(problem), cells != ())
        self.assertEqual(tuple(model.cell for model in models(problem)), cells)
        self.assertEqual(least_model(problem), stands_at(problem, cells[0]) if cells else None)
        return cells != ()

    def test_literals_that_follow_from_denied_ones(self):
        source = random.Random(170)
        found = [self.check(nested_problem(source)) for _ in range(80)]
        self.assertTrue(20 < sum(found) < 78, sum(found))

    def test_literals_of_both_signs(self):
        source = random.Random(171)
        found = [self.check(mixed_problem(source)) for _ in range(80)]
        self.assertTrue(20 < sum(found) < 78, sum(found))

    def test_terms_that_must_differ_because_their_values_do(self):
        """f(f(a)) and f(b) differ, so f(a) and b do, and the words of no row meet both of the last clauses."""
        rows = [((3, (0, 1)), (text,)) for text in "pqst"]
        clauses = [(differ(("f", ("f", A)), ("f", B)),), (differ(("f", A), B), equal("t", ("g", A), B)),
                   tuple(WORDS[:2]), tuple(WORDS[2:])]
        problem = Problem.of(("a", "b"), *clauses, t=("terms",), r=("rows", tuple(rows)))
        self.assertFalse(self.check(problem))
        more = ("rows", (((3, (0, 0)), ("p", "s")), *rows))
        problem = Problem.of(("a", "b"), *clauses, t=("terms",), r=more)
        self.assertTrue(self.check(problem))
        self.assertEqual(list(fitting_picks(problem, (3, (0, 0)))),
                         [(clauses[0][0], literal, WORDS[0], WORDS[2]) for literal in clauses[1]])
