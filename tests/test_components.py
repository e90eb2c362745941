import itertools
import random

from helper import LookerCase
from onelooker.cells import Cells
from onelooker.components import clause_against, component_problems, components, problem_for, shadow
from onelooker.errors import BadCell, NamesMismatch
from onelooker.literals import below, equal, negated, of_kind, owner_of, same, size_at_most, turn
from onelooker.names import cells_over
from onelooker.problems import Problem
from onelooker.standing import standing
from slow import all_cells, random_problem, shared_truth, slow_picks
from slowrounds import sets_over

NAMES, EVERY = ("a", "b"), ("a", "b", "c")
AB, SIZE_1, SIZE_2 = same("a", "b"), size_at_most(1), size_at_most(2)
CARDS = {"o": ("below",), "u": ("ring", 2), "t": ("terms",)}
OF_O, OF_U, OF_T = below("o", "a", "b"), turn("u", "a", "b", 1), equal("t", ("f", ("a",)), ("b",))


def own_owners(problem, label):
    """The owners of the own literals of a clause."""
    return {owner_of(literal) for literal in problem[label]} - {""}


def slow_components(problem):
    """The components, by the words of point 166: what can be reached over links."""
    found = set()
    for label in problem:
        reached = {label}
        while True:
            more = {other for other in problem for one in reached if own_owners(problem, other) & own_owners(problem, one)}
            if more <= reached:
                break
            reached |= more
        found.add(tuple(sorted(reached)))
    return sorted(found)


class ComponentsTest(LookerCase):

    def check(self, problem):
        """What point 166 says; returns the components."""
        found = components(problem)
        self.assertEqual(found, slow_components(problem))
        parts = component_problems(problem)
        self.assertEqual([part.labels for part in parts if len(part)], found)
        self.assertEqual([part.names for part in parts], [problem.names] * len(parts))
        for part in parts:
            wanted = sorted({owner for label in part for owner in own_owners(problem, label)})
            self.assertEqual(list(part.owners), wanted if len(part) else list(part.owners))
        used = {owner for label in problem for owner in own_owners(problem, label)}
        self.assertEqual([part.owners for part in parts[len(found):]],
                         [(owner,) for owner in problem.owners if owner not in used])
        self.assertEqual([len(part) for part in parts[len(found):]], [0] * (len(parts) - len(found)))
        if parts:
            total = parts[0]
            for part in parts[1:]:
                total = total + part
            self.assertEqual(total, problem)
        return found

    def test_samples(self):
        source = random.Random(350)
        seen = set()
        for _ in range(200):
            seen.add(len(self.check(random_problem(source, clauses=5, longest=2))))
        self.assertLessEqual({0, 1, 2, 3}, seen)

    def test_the_problem_stands_where_its_components_do(self):
        source = random.Random(351)
        seen = {True: 0, False: 0}
        for _ in range(80):
            problem = random_problem(source, clauses=4, longest=2)
            cells = Cells.every(len(problem.names))
            for part in component_problems(problem):
                cells = cells & standing(part)
            self.assertEqual(cells, standing(problem))
            self.assertEqual(cells.rows, tuple(cell for cell in all_cells(len(problem.names)) if slow_picks(problem, cell)))
            seen[len(cells) > 0] += 1
        self.assertTrue(min(seen.values()) > 10, seen)

    def test_links_over_several_owners(self):
        problem = Problem(NAMES, CARDS, {1: (OF_T,), 2: (OF_O, AB), 5: (OF_U, OF_O), 30: (OF_U, OF_T), 31: (AB,), 7: (AB,)})
        self.assertEqual(self.check(problem), [(1, 2, 5, 30), (7,), (31,)])
        self.assertEqual(self.check(problem.drop(5)), [(1, 30), (2,), (7,), (31,)])
        self.assertEqual(self.check(problem.drop(30).drop(2)), [(1,), (5,), (7,), (31,)])
        self.assertEqual(self.check(problem.only((31, 7))), [(7,), (31,)])

    def test_shared_literals_do_not_link(self):
        self.assertEqual(self.check(Problem.of(NAMES, (AB, SIZE_1), (AB,), (negated(AB), OF_O), o=("below",))),
                         [(1,), (2,), (3,)])

    def test_owners_without_a_clause(self):
        problem = Problem(NAMES, CARDS, {2: (OF_U, AB)})
        parts = component_problems(problem)
        self.assertEqual(parts, [Problem(NAMES, {"u": ("ring", 2)}, {2: (OF_U, AB)}), Problem(NAMES, {"o": ("below",)}, {}),
                                 Problem(NAMES, {"t": ("terms",)}, {})])
        self.assertEqual([part.owners for part in component_problems(Problem(NAMES, CARDS, {}))], [("o",), ("t",), ("u",)])

    def test_no_components(self):
        self.assertEqual((components(Problem.of(EVERY)), component_problems(Problem.of(EVERY))), ([], []))
        self.assertEqual(components(Problem((), {"o": ("below",)}, {})), [])

    def test_lists_are_new(self):
        problem = Problem.of(NAMES, (OF_O,), o=("below",))
        components(problem).clear(), component_problems(problem).clear()
        self.assertEqual((components(problem), len(component_problems(problem))), ([(1,)], 1))


class AgainstTest(LookerCase):

    def test_it_fails_at_the_cell_alone(self):
        for width in range(4):
            names = EVERY[:width]
            for cell in cells_over(width):
                found = clause_against(names, cell)
                self.assertEqual(found, tuple(sorted(set(found))))
                for other in all_cells(width):
                    truth = any(shared_truth(names, other, literal) for literal in found)
                    self.assertEqual(truth, other != cell)

    def test_examples(self):
        self.gives((negated(AB), negated(SIZE_1)), clause_against, NAMES, (1, (0, 0)))
        self.gives((AB, SIZE_1, negated(SIZE_2)), clause_against, NAMES, (2, (0, 1)))
        self.gives((AB, SIZE_2), clause_against, NAMES, (3, (0, 1)))
        self.gives((SIZE_1, negated(SIZE_2)), clause_against, (), (2, ()))
        self.gives((negated(SIZE_1),), clause_against, ("c",), (1, (0,)))
        self.gives((negated(AB), same("a", "c"), same("b", "c"), SIZE_2), clause_against, EVERY, (3, (0, 0, 1)))

    def test_wrong_cells(self):
        for cell in ((1, (0, 1)), (2, (0,)), (4, (0, 0)), (True, (0, 0)), None, (3, (1, 0)), (3, (0, 0, 0))):
            self.refuses(BadCell, {"value": cell}, clause_against, NAMES, cell)


class ShadowTest(LookerCase):

    def check(self, names, cells):
        """The problem for a set of cells, by the words of point 167."""
        found = problem_for(names, cells)
        wanted = [cell for cell in cells_over(len(names)) if cell not in cells.rows]
        self.assertEqual(found, Problem(names, {}, {
            label: clause_against(names, cell) for label, cell in enumerate(wanted, start=1)}))
        self.assertEqual(standing(found), cells)

    def test_all_sets_of_cells(self):
        source = random.Random(352)
        for width in range(4):
            every = sets_over(width)
            for some in source.sample(every, min(len(every), 60)):
                self.check(EVERY[:width], Cells(width, sorted(some)))

    def test_no_and_all_cells(self):
        for width in range(4):
            self.check(EVERY[:width], Cells(width, []))
            self.check(EVERY[:width], Cells.every(width))
            self.assertEqual(len(problem_for(EVERY[:width], Cells.every(width))), 0)

    def test_other_widths(self):
        for width, other in itertools.permutations(range(4), 2):
            self.refuses(NamesMismatch, {}, problem_for, EVERY[:width], Cells.every(other))

    def test_shadows(self):
        source = random.Random(353)
        seen = {True: 0, False: 0}
        for _ in range(80):
            problem = random_problem(source, clauses=4, longest=2)
            found = shadow(problem)
            self.assertEqual(found, problem_for(problem.names, standing(problem)))
            self.assertEqual((found.names, found.owners, standing(found)), (problem.names, (), standing(problem)))
            seen[len(standing(found)) > 0] += 1
        self.assertTrue(min(seen.values()) > 10, seen)

    def test_examples(self):
        problem = Problem.of(NAMES, (OF_O,), o=("below",))
        self.assertEqual(list(shadow(problem)), [1, 2, 3])
        self.assertEqual(shadow(Problem.of(())), Problem.of(()))
        kinds = Problem.of(("a",), (of_kind("k", "a", "k"),), k=("kinds", (("k", 1),)))
        self.assertEqual(standing(shadow(kinds)).rows, ((1, (0,)),))
        self.assertEqual(shadow(kinds), Problem.of(("a",), (SIZE_1, negated(SIZE_2)), (SIZE_2,)))
