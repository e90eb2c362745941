import itertools
import random
import types

from helper import LookerCase
from onelooker import conflicts as module
from onelooker.conflicts import conflicts, corrections, first_conflict, hitting_sets, walk_corrections
from onelooker.errors import Stands, TooMany
from onelooker.literals import below, equal, negated, same, size_at_most
from onelooker.problems import Problem
from slow import all_cells, slow_picks
from slowasking import slow_stands, tight_problem

NAMES = ("a", "b")
AB, SIZE_1, SIZE_2 = same("a", "b"), size_at_most(1), size_at_most(2)
BELOW, ABOVE = below("o", "a", "b"), below("o", "b", "a")
NO_MODEL = {"k": ("kinds", (("k", 1),)), "m": ("kinds", (("k", 2),))}


def subsets(labels):
    """All sets of labels, as ascending tuples."""
    return [some for size in range(len(labels) + 1) for some in itertools.combinations(labels, size)]


def slow_conflicts(labels, stands):
    """The conflicts, by the words of point 163; stands tells whether the clauses of some labels stand alone."""
    return sorted(some for some in subsets(labels) if not stands[some]
                  and all(stands[fewer] for fewer in subsets(some) if fewer != some))


def slow_corrections(labels, stands):
    """The corrections, by the words of point 163."""
    def left(some):
        return tuple(label for label in labels if label not in some)
    return sorted(some for some in subsets(labels) if stands[left(some)]
                  and not any(stands[left(fewer)] for fewer in subsets(some) if fewer != some))


def slow_hitting(sets):
    """The least hitting sets, by the words of point 165."""
    hits = [some for some in subsets(sorted({label for each in sets for label in each}))
            if all(set(some) & set(each) for each in sets)]
    return sorted(some for some in hits if not any(set(other) < set(some) for other in hits))


class ConflictTest(LookerCase):

    def check(self, problem, stands):
        """What points 163 to 165 say; returns the conflicts and the corrections."""
        labels = problem.labels
        found, fixed = slow_conflicts(labels, stands), slow_corrections(labels, stands)
        self.gives(found, lambda asked: conflicts(asked), problem)
        self.gives(fixed, lambda asked: corrections(asked), problem)
        self.assertEqual(list(walk_corrections(problem)), sorted(fixed, key=lambda some: (len(some), some)))
        self.gives(fixed, hitting_sets, found)
        self.gives(found, hitting_sets, tuple(fixed))
        for most in (0, 1, 2, 5):
            self.gives([some for some in found if len(some) <= most], lambda asked: conflicts(asked, most=most), problem)
            self.gives([some for some in fixed if len(some) <= most], lambda asked: corrections(asked, most=most), problem)
        if stands[labels]:
            self.assertEqual((found, fixed), ([], [()]))
            self.refuses(Stands, {}, first_conflict, problem)
        else:
            self.check_first(problem, stands, found)
        return found, fixed

    def check_first(self, problem, stands, found):
        """The first conflict, by the words of the interface."""
        kept = problem.labels
        for label in problem.labels[::-1]:
            others = tuple(other for other in kept if other != label)
            if not stands[others]:
                kept = others
        self.gives(kept, lambda asked: first_conflict(asked), problem)
        self.assertIn(kept, found)

    def test_going_through_all_models(self):
        source = random.Random(340)
        seen = [0, 0, 0]
        while min(seen) < 20:
            problem = tight_problem(source, clauses=6)
            stands = {some: slow_stands(problem, some) for some in subsets(problem.labels)}
            found, _ = self.check(problem, stands)
            seen[min(2, len(found))] += 1

    def test_terms(self):
        source = random.Random(341)
        seen = [0, 0]
        while min(seen) < 5:
            problem = tight_problem(source, clauses=5, most=1, forms=("terms",))
            stands = {some: any(slow_picks(problem.only(some), cell) for cell in all_cells(len(problem.names)))
                      for some in subsets(problem.labels)}
            found, _ = self.check(problem, stands)
            seen[len(found) > 0] += 1

    def test_examples(self):
        problem = Problem.of(NAMES, (BELOW,), (AB, ABOVE), (negated(AB),), (negated(ABOVE),), (SIZE_1,), o=("below",))
        self.assertEqual(conflicts(problem), [(1, 2), (1, 5), (2, 3, 4), (3, 5)])
        self.assertEqual(corrections(problem), [(1, 3), (1, 4, 5), (2, 5)])
        self.assertEqual(list(walk_corrections(problem)), [(1, 3), (2, 5), (1, 4, 5)])
        self.assertEqual((conflicts(problem, most=2), corrections(problem, most=2)),
                         ([(1, 2), (1, 5), (3, 5)], [(1, 3), (2, 5)]))
        self.assertEqual(first_conflict(problem), (1, 2))
        self.assertEqual(conflicts(problem.drop(1).drop(5)), [(2, 3, 4)])

    def test_a_problem_that_stands(self):
        problem = Problem.of(NAMES, (BELOW,), (AB, BELOW), o=("below",))
        self.assertEqual((conflicts(problem), corrections(problem)), ([], [()]))
        self.assertEqual((conflicts(problem, most=0), corrections(problem, most=0)), ([], [()]))
        self.refuses(Stands, {}, first_conflict, problem)
        self.assertEqual((conflicts(Problem.of(())), corrections(Problem.of(()))), ([], [()]))

    def test_theories_without_a_common_model(self):
        for problem in (Problem((), NO_MODEL, {}), Problem(NAMES, NO_MODEL, {3: (AB,), 7: (negated(AB),)})):
            self.assertEqual((conflicts(problem), corrections(problem)), ([()], []))
            self.assertEqual((conflicts(problem, most=0), corrections(problem, most=0)), ([()], []))
            self.assertEqual(first_conflict(problem), ())

    def test_labels_are_not_places(self):
        problem = Problem(NAMES, {"o": ("below",)}, {900: (BELOW,), 7: (ABOVE,), 31: (SIZE_2,)})
        self.assertEqual((conflicts(problem), corrections(problem)), ([(7, 900)], [(7,), (900,)]))
        self.assertEqual(first_conflict(problem), (7, 900))

    def test_eight_and_nine_clauses(self):
        self.assertEqual(module.MOST_ASKED, 8)
        eight = Problem.of(NAMES, *[(AB,)] * 4, *[(negated(AB),)] * 4)
        self.assertEqual(conflicts(eight), [(low, high) for low in range(1, 5) for high in range(5, 9)])
        self.assertEqual(corrections(eight), [(1, 2, 3, 4), (5, 6, 7, 8)])
        nine = eight.put(9, (SIZE_1,))
        for call in (conflicts, corrections, lambda asked: list(walk_corrections(asked)),
                     lambda asked: conflicts(asked, most=0), lambda asked: corrections(asked, most=1)):
            self.refuses(TooMany, {"what": "clauses"}, call, nine)
        self.assertEqual(first_conflict(nine), (1, 5))
        self.refuses(TooMany, {"what": "clauses"}, conflicts, Problem((), NO_MODEL, {at: (SIZE_1,) for at in range(1, 10)}))

    def test_corrections_are_generated(self):
        problem = Problem.of(NAMES, (AB,), (negated(AB),))
        found = walk_corrections(problem)
        self.assertIsInstance(found, types.GeneratorType)
        self.assertEqual(next(found), (1,))
        wrong = walk_corrections(Problem((), {}, {at: (SIZE_1,) for at in range(1, 10)}))
        self.refuses(TooMany, {"what": "clauses"}, next, wrong)

    def test_first_conflict_of_many_clauses(self):
        clauses = {label: (equal("t", (f"f{label}", ("a",)), ("a",)),) for label in range(1, 39)}
        problem = Problem(("a",), {"t": ("terms",)}, {**clauses, 39: (SIZE_1,), 40: (SIZE_2,)})
        self.assertEqual(first_conflict(problem), (39,))
        self.assertEqual(first_conflict(problem.drop(39)), (40,))
        self.refuses(Stands, {}, first_conflict, problem.drop(39).drop(40))


class HittingTest(LookerCase):

    def test_samples(self):
        source = random.Random(342)
        for _ in range(150):
            sets = [tuple(sorted(source.sample((1, 2, 5, 30, 31, 400, 998, 999), source.randint(source.choice((0, 1)), 4))))
                    for _ in range(source.randint(0, 6))]
            self.gives(slow_hitting(sets), hitting_sets, sets)
            self.gives(slow_hitting(sets), hitting_sets, tuple(sets[::-1]))

    def test_no_sets_and_empty_sets(self):
        self.gives([()], hitting_sets, [])
        self.gives([()], hitting_sets, ())
        self.gives([], hitting_sets, [()])
        self.gives([], hitting_sets, [(1, 2), (), (3,)])

    def test_examples(self):
        self.gives([(1, 3), (2,)], hitting_sets, [(1, 2), (2, 3)])
        self.gives([(9,), (10,)], hitting_sets, [(9, 10)])
        self.gives([(1, 2, 3)], hitting_sets, [(3,), (2,), (1,)])
        self.gives([(1,)], hitting_sets, [(1,), (1,), (2, 1), (1, 1)])

    def test_eight_and_nine_labels(self):
        eight = [tuple(range(1, 9)), (1, 2), (8, 3)]
        self.gives(slow_hitting(eight), hitting_sets, eight)
        self.refuses(TooMany, {"what": "labels"}, hitting_sets, [tuple(range(1, 10))])
        self.refuses(TooMany, {"what": "labels"}, hitting_sets, [(label,) for label in range(11, 20)])
        self.refuses(TooMany, {"what": "labels"}, hitting_sets, [(), tuple(range(1, 10))])
        self.gives([(label,) for label in range(1, 9)], hitting_sets, [tuple(range(8, 0, -1)), tuple(range(1, 9))])
