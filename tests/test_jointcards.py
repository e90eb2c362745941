import itertools
import random

from helper import LookerCase
from onelooker.cards import check_card
from onelooker.errors import BadCard, NoOwner, TooMany
from onelooker.families import family_sets
from onelooker.jointcards import joint_card, joint_problem
from onelooker.literals import below, negated, same, word
from onelooker.problems import Problem
from onelooker.standing import standing
from slow import all_cells, random_card, random_problem, slow_picks

NAMES = ("a", "b")
ONE, TWO, APART, THREE = (1, (0, 0)), (2, (0, 0)), (2, (0, 1)), (3, (0, 1))
FIRST = ("rows", ((ONE, ("p",)), (TWO, ("p", "r")), (TWO, ("q",)), (APART, ())))
SECOND = ("rows", ((ONE, ("q",)), (TWO, ()), (TWO, ("n",)), (THREE, ("q",))))


def rows_of(*rows):
    return ("rows", tuple(sorted(rows)))


class CardTest(LookerCase):

    def test_an_example(self):
        wanted = rows_of((ONE, ("x0", "y1")), (TWO, ("x0", "x2")), (TWO, ("x0", "x2", "y0")), (TWO, ("x1",)),
                         (TWO, ("x1", "y0")))
        self.gives(wanted, joint_card, FIRST, SECOND)

    def test_cards_without_words(self):
        self.gives(rows_of((ONE, ())), joint_card, rows_of((ONE, ()), (TWO, ())), rows_of((ONE, ()), (THREE, ())))
        self.gives(rows_of((ONE, ("y0",))), joint_card, rows_of((ONE, ())), rows_of((ONE, ("p",))))
        self.gives(rows_of((ONE, ("x0",))), joint_card, rows_of((ONE, ("p",))), rows_of((ONE, ())))

    def test_the_families_are_intersected(self):
        source = random.Random(220)
        seen = 0
        for _ in range(80):
            names = ("a", "b", "c")[:source.randint(0, 3)]
            first, second = [random_card(source, len(names), ("rows",)) for _ in range(2)]
            cells = {cell for cell, _ in first[1]} & {cell for cell, _ in second[1]}
            if not cells:
                self.refuses(BadCard, {"value": second}, joint_card, first, second)
                continue
            found = joint_card(first, second)
            check_card(found, len(names))
            self.assertEqual(len(found[1]), len([1 for cell, _ in first[1] for other, _ in second[1] if cell == other]))
            lows, highs = [[set(each.rows) for each in family_sets("o", card, names)] for card in (first, second)]
            wanted = {tuple(sorted(low & high)) for low in lows for high in highs} - {()}
            self.assertEqual([each.rows for each in family_sets("o", found, names)], sorted(wanted))
            seen += 1
        self.assertTrue(seen > 30, seen)

    def test_six_and_seven_words(self):
        words = [f"w{number}" for number in range(6)]
        for many in range(7):
            low, high = rows_of((ONE, tuple(words[:many]))), rows_of((ONE, tuple(words[:6 - many])))
            self.assertEqual(len(joint_card(low, high)[1][0][1]), 6)
            more = rows_of((ONE, tuple(words[:6 - many])), (THREE, ("u",)))
            self.refuses(TooMany, {"what": "words"}, joint_card, low, more)

    def test_64_rows_and_more(self):
        sets = [tuple(some) for size in range(4) for some in itertools.combinations("pqr", size)]
        eight = [(ONE, words) for words in sets]
        self.assertEqual(len(joint_card(rows_of(*eight), rows_of(*eight))[1]), 64)
        low, high = rows_of(*eight, (TWO, ())), rows_of(*eight, (TWO, ()))
        self.refuses(TooMany, {"what": "rows"}, joint_card, low, high)
        self.assertEqual(len(joint_card(rows_of(*eight), high)[1]), 64)

    def test_no_common_cell(self):
        self.refuses(BadCard, {"value": rows_of((TWO, ("p",)))}, joint_card, rows_of((ONE, ("p",))), rows_of((TWO, ("p",))))

    def test_the_order_of_the_errors(self):
        words = tuple(f"w{number}" for number in range(6))
        sets = [tuple(some) for size in range(4) for some in itertools.combinations(words[:3], size)]
        low = rows_of(*[(ONE, some) for some in sets], (TWO, words))
        self.refuses(BadCard, {"value": rows_of((THREE, words))}, joint_card, low, rows_of((THREE, words)))
        high = rows_of(*[(ONE, (*some, word)) for some in sets for word in ("x1", "x2")])
        self.refuses(TooMany, {"what": "words"}, joint_card, low, high)


class ProblemTest(LookerCase):

    def problem(self, *clauses):
        return Problem(NAMES, {"r": FIRST, "s": SECOND, "o": ("below",)}, dict(enumerate(clauses, start=3)))

    def test_an_example(self):
        problem = self.problem((word("r", "q"), negated(word("s", "n")), same("a", "b")),
                               (negated(word("r", "n")), word("s", "z"), below("o", "a", "b")),
                               (word("s", "q"), word("r", "p"), word("r", "r"), negated(word("s", "z9"))))
        found = joint_problem(problem, "r", "s")
        self.assertEqual((found.names, found.owners, found.labels), (NAMES, ("o", "r"), (3, 4, 5)))
        self.assertEqual(found.theories(), {"o": ("below",), "r": joint_card(FIRST, SECOND)})
        self.assertEqual(found[3], (same("a", "b"), word("r", "x1"), negated(word("r", "y0"))))
        self.assertEqual(found[4], tuple(sorted((below("o", "a", "b"), negated(word("r", "z")), word("r", "z")))))
        self.assertEqual(found[5], tuple(sorted((word("r", "x0"), word("r", "x2"), word("r", "y1"),
                                                 negated(word("r", "z"))))))

    def test_the_second_owner_may_be_the_earlier_one(self):
        problem = self.problem((word("r", "q"), word("s", "n")))
        found = joint_problem(problem, "s", "r")
        self.assertEqual(found.theories(), {"o": ("below",), "s": joint_card(SECOND, FIRST)})
        self.assertEqual(found[3], (word("s", "x0"), word("s", "y1")))

    def test_literals_that_become_equal_count_once(self):
        problem = self.problem((word("r", "n"), word("s", "p"), word("r", "z")))
        self.assertEqual(joint_problem(problem, "r", "s")[3], (word("r", "z"),))

    def test_the_problem_stands_at_the_same_cells(self):
        source = random.Random(221)
        seen = {True: 0, False: 0}
        while min(seen.values()) < 25:
            problem = random_problem(source, forms=("rows",), clauses=4, owners="opq", width=2)
            for first, second in itertools.permutations(problem.owners, 2):
                if {cell for cell, _ in problem.card(first)[1]} & {cell for cell, _ in problem.card(second)[1]}:
                    found = joint_problem(problem, first, second)
                    wanted = [cell for cell in all_cells(len(problem.names)) if slow_picks(problem, cell)]
                    self.assertEqual(list(standing(found)), wanted)
                    self.assertEqual([cell for cell in wanted if not slow_picks(found, cell)], [])
                    seen[wanted != []] += 1

    def test_errors(self):
        problem = self.problem((word("r", "q"),))
        self.refuses(NoOwner, {"owner": "x"}, joint_problem, problem, "x", "y")
        self.refuses(NoOwner, {"owner": "y"}, joint_problem, problem, "o", "y")
        self.refuses(NoOwner, {"owner": "x"}, joint_problem, problem, "x", "o")
        self.refuses(BadCard, {"value": ("below",)}, joint_problem, problem, "o", "r")
        self.refuses(BadCard, {"value": ("below",)}, joint_problem, problem, "r", "o")
        both = Problem.of(NAMES, o=("below",), u=("ring", 2))
        self.refuses(BadCard, {"value": ("ring", 2)}, joint_problem, both, "u", "o")
        apart = Problem.of(NAMES, r=rows_of((ONE, ())), s=rows_of((TWO, ())))
        self.refuses(BadCard, {"value": rows_of((TWO, ()))}, joint_problem, apart, "r", "s")
        many = rows_of((ONE, tuple("pqrs")))
        self.refuses(TooMany, {"what": "words"}, joint_problem, Problem.of(NAMES, r=many, s=many), "r", "s")
        self.assertEqual(problem, self.problem((word("r", "q"),)))
