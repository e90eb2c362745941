import itertools
import random

from helper import LookerCase
from onelooker.cells import Cells
from onelooker.certificates import Certificate
from onelooker.checking import check, refutes
from onelooker.deciders import all_parts, fits
from onelooker.literals import below, equal, negated, of_kind, owner_of, same, size_at_most, turn, word
from onelooker.models import Model
from onelooker.names import cells_over
from onelooker.problems import Problem
from onelooker.standing import fitting_picks, has_model, least_model, models, standing, stands_at
from slow import random_certificate_rows, random_problem, refutations, slow_picks

NAMES = ("a", "b")
SAME, SIZE_1, SIZE_2 = same("a", "b"), size_at_most(1), size_at_most(2)
AB, BA = below("o", "a", "b"), below("o", "b", "a")
FA, FB = ("f", ("a",)), ("f", ("b",))
SIGNS = list(itertools.product((False, True), repeat=3))
WORDS = [word("r", text) for text in "pqr"]
CARDS = {"r": ("rows", tuple(sorted((cell, tuple(text for text, sign in zip("pqr", signs) if sign))
                                    for cell in cells_over(2) for signs in SIGNS))),
         "t": ("terms",), "o": ("below",), "u": ("ring", 2), "k": ("kinds", (("k", 0), ("l", 0)))}


def signed(literals, signs):
    """The clause of positive literals with other signs."""
    return tuple((atom, sign) for (atom, _), sign in zip(literals, signs))


class PicksTest(LookerCase):

    def test_no_clauses(self):
        for cell in cells_over(2):
            self.assertEqual(list(fitting_picks(Problem.of(NAMES), cell)), [()])
            self.assertEqual(list(fitting_picks(Problem.of(NAMES, o=("below",)), cell)), [()])
            self.assertEqual(list(fitting_picks(Problem.of(NAMES, o=("terms",)), cell)), [()] if cell[0] == 3 else [])

    def test_an_owner_without_literals_must_have_a_model_at_the_cell(self):
        problem = Problem.of(NAMES, (SIZE_1, SIZE_2), k=("kinds", (("k", 2),)))
        self.assertEqual(list(fitting_picks(problem, (1, (0, 0)))), [])
        self.assertEqual(list(fitting_picks(problem, (2, (0, 0)))), [(SIZE_2,)])

    def test_ascending_by_labels(self):
        problem = Problem(NAMES, {"o": ("below",)}, {9: (SAME, AB), 3: (negated(AB), BA, SIZE_2)})
        self.assertEqual(list(fitting_picks(problem, (2, (0, 0)))), [(SIZE_2, SAME), (negated(AB), SAME)])
        self.assertEqual(list(fitting_picks(problem, (2, (0, 1)))), [(SIZE_2, AB)])
        self.assertEqual(list(fitting_picks(problem, (3, (0, 1)))), [])

    def test_shared_literals(self):
        problem = Problem.of(NAMES, (SAME, negated(SAME), SIZE_1, negated(SIZE_2)))
        self.assertEqual(list(fitting_picks(problem, (1, (0, 0)))), [(SAME,), (SIZE_1,)])
        self.assertEqual(list(fitting_picks(problem, (3, (0, 1)))), [(negated(SAME),), (negated(SIZE_2),)])

    def test_samples(self):
        source = random.Random(160)
        seen = {True: 0, False: 0}
        for _ in range(250):
            problem = random_problem(source)
            for cell in cells_over(len(problem.names)):
                wanted = slow_picks(problem, cell)
                self.assertEqual(list(fitting_picks(problem, cell)), wanted)
                self.assertEqual([pick for pick in wanted if not self.fits_by_itself(problem, cell, pick)], [])
                seen[wanted == []] += 1
        self.assertTrue(min(seen.values()) > 300, seen)

    def fits_by_itself(self, problem, cell, pick):
        """True if a pick fits a cell by point 13, as the functions of deciders say."""
        shared = [literal for literal in pick if owner_of(literal) == ""]
        return fits(None, problem.names, shared, cell) is not None and all(
            fits(problem.card(owner), problem.names, [each for each in pick if owner_of(each) == owner], cell) is not None
            for owner in problem.owners)

    def test_the_theories_of_one_form(self):
        source = random.Random(161)
        for form in ("rows", "kinds", "below", "ring", "terms"):
            for _ in range(25):
                problem = random_problem(source, forms=(form,), clauses=5)
                for cell in cells_over(len(problem.names)):
                    self.assertEqual(list(fitting_picks(problem, cell)), slow_picks(problem, cell))

    def test_they_are_generated(self):
        problem = Problem.of(NAMES, *[(SAME, negated(SAME), SIZE_1, SIZE_2)] * 40)
        found = fitting_picks(problem, (1, (0, 0)))
        self.assertIs(iter(found), found)
        self.assertEqual(next(found), (SAME,) * 40)
        self.assertEqual(next(found), (SAME,) * 39 + (SIZE_1,))
        found = fitting_picks(None, None)
        with self.assertRaises(AttributeError):
            next(found)

    def test_far_too_many_picks_to_try(self):
        words = [word("r", f"w{number}") for number in range(6)]
        rows = ("rows", tuple(sorted(((size, (0, 0)), (f"w{number}",)) for number in range(6) for size in (1, 2, 3))))
        everything = tuple(sorted(words + [SAME, negated(SAME)]))
        clauses = {label: everything for label in range(1, 39)}
        problem = Problem(NAMES, {"r": rows}, {**clauses, 39: (words[0],), 40: (words[1],)})
        self.assertEqual(list(fitting_picks(problem, (3, (0, 0)))), [])
        self.assertEqual(len(standing(problem)), 0)
        self.assertEqual(len(standing(problem.drop(40))), 3)

    def check_choices(self, three):
        """All but one choice of signs for three literals are denied: the picks are those of the choice that is left."""
        owners = {owner_of(literal) for literal in three} - {""}
        for free in SIGNS:
            left = [(atom, not sign) for (atom, _), sign in zip(three, free)]
            clauses = [signed(three, signs) for signs in SIGNS if signs != free]
            problem = Problem.of(NAMES, *clauses, **{owner: CARDS[owner] for owner in sorted(owners)})
            every = [problem[label] for label in problem]
            wanted = list(itertools.product(*[[each for each in clause if each in left] for clause in every]))
            single = Problem.of(NAMES, *[(literal,) for literal in left], **problem.theories())
            for cell in cells_over(2):
                stands = slow_picks(single, cell) != []
                self.assertEqual(list(fitting_picks(problem, cell)), wanted if stands else [])
                self.assertEqual(cell in standing(problem), stands)
            self.assertFalse(has_model(problem.put(999, signed(three, free))))

    def test_all_but_one_choice_of_three_literals_denied(self):
        equals = [equal("t", (function, ("a",)), ("a",)) for function in "fgh"]
        for three in (WORDS, equals, [WORDS[0], equals[1], WORDS[2]], [equals[0], WORDS[1], WORDS[2]],
                      [AB, turn("u", "a", "b", 1), SAME]):
            self.check_choices(three)

    def test_literals_that_deny_or_imply_each_other(self):
        denied = [signed(WORDS, signs) for signs in SIGNS]
        both = [turn("u", "a", "b", 0), turn("u", "a", "b", 1)]
        kinds = [negated(of_kind("k", "a", "k")), of_kind("k", "a", "l")]
        torn = [kinds[0], negated(kinds[0])]
        for first in [tuple(kinds), (*both, SAME), (*both, AB), (*kinds, AB), (SAME, *kinds, AB), (*torn, AB),
                      (*torn, WORDS[0])]:
            owners = {"r", *[owner_of(literal) for literal in first]} - {""}
            problem = Problem.of(NAMES, first, *denied, **{owner: CARDS[owner] for owner in sorted(owners)})
            self.assertFalse(has_model(problem))
            self.assertTrue(has_model(problem.drop(5)))
            self.assertEqual([cell for cell in cells_over(2) if list(fitting_picks(problem, cell))], [])

    def test_terms_that_must_be_equal_because_of_their_arguments(self):
        low, high = ("f", FA), ("f", ("b",))
        told = [equal("t", FA, ("b",)), equal("t", FA, ("g", ("a",)))]
        problem = Problem.of(NAMES, (negated(equal("t", low, high)),), tuple(told), t=("terms",))
        self.assertEqual(list(fitting_picks(problem, (3, (0, 1)))), [(negated(equal("t", low, high)), told[1])])
        problem = Problem.of(NAMES, tuple(told), (negated(equal("t", low, high)),), (told[0], SAME), t=("terms",))
        self.assertEqual(list(fitting_picks(problem, (3, (0, 1)))), [])
        self.assertEqual([pick[0] for pick in fitting_picks(problem, (3, (0, 0)))], [told[1]])

    def test_chains_of_equal_terms(self):
        terms = [(f"f{number}", ("a",)) for number in range(20)]
        clauses = [(equal("t", low, high), equal("t", low, ("g", high))) for low, high in zip(terms, terms[1:])]
        problem = Problem.of(("a", "b"), *clauses, t=("terms",))
        self.assertEqual(standing(problem).rows, ((3, (0, 0)), (3, (0, 1))))
        alone = Problem.of(("a", "b"), *[clause[:1] for clause in clauses], (negated(equal("t", terms[0], terms[19])),),
                           t=("terms",))
        self.assertFalse(has_model(alone))


class StandingTest(LookerCase):

    def check(self, wanted, problem):
        """The problem stands at these cells, and has models at them alone."""
        found = standing(problem)
        self.assertIs(type(found), Cells)
        self.assertEqual((found.width, found.rows), (len(problem.names), tuple(wanted)))
        self.assertIs(has_model(problem), bool(wanted))
        every = list(models(problem))
        self.assertEqual([model.cell for model in every], list(wanted))
        for model in every:
            self.assertTrue(model.satisfies(problem))
            self.assertEqual((model.names, model.theories()), (problem.names, problem.theories()))
        for cell in cells_over(len(problem.names)):
            self.assertEqual([stands_at(problem, cell)],
                             [model for model in every if model.cell == cell] or [None])
        self.assertEqual(least_model(problem), every[0] if every else None)

    def test_no_clauses(self):
        for names in ((), ("a",), ("a", "b"), ("a", "b", "c")):
            self.check(cells_over(len(names)), Problem.of(names))
        self.check([(3, (0, 0)), (3, (0, 1))], Problem.of(NAMES, t=("terms",)))
        self.check([], Problem.of(NAMES, t=("terms",), k=("kinds", (("k", 1),))))

    def test_nowhere_at_one_cell_and_at_all(self):
        self.check([], Problem.of(NAMES, (SAME,), (negated(SAME),)))
        self.check([(2, (0, 1))], Problem.of(NAMES, (SIZE_2,), (AB,), o=("below",)))
        self.check(cells_over(2), Problem.of(NAMES, (SAME, negated(AB)), (negated(BA),), o=("below",)))

    def test_several_theories(self):
        problem = Problem.of(NAMES, (AB, turn("u", "a", "b", 1)), (negated(SIZE_2), SAME),
                             (of_kind("k", "a", "k"),), o=("below",), u=("ring", 2), k=("kinds", (("k", 1), ("l", 1))))
        self.check([], problem)
        problem = Problem.of(NAMES, (AB, turn("u", "a", "b", 1)), (negated(SIZE_2), negated(SAME)),
                             (of_kind("k", "b", "k"),), o=("below",), u=("ring", 2), k=("kinds", (("k", 1), ("l", 1))))
        self.check([(2, (0, 1))], problem)
        self.assertEqual(least_model(problem), Model(NAMES, problem.theories(), (2, (0, 1)), {
            "o": ((0, 1),), "u": (0, 0), "k": ("l", "k")}))

    def test_the_model_is_made_from_the_least_fitting_pick(self):
        problem = Problem.of(NAMES, (negated(AB), AB), (BA, SAME), o=("below",), u=("ring", 3))
        self.assertEqual(stands_at(problem, (2, (0, 1))),
                         Model(NAMES, problem.theories(), (2, (0, 1)), {"o": ((1, 0),), "u": (0, 0)}))
        problem = Problem.of(NAMES, (equal("t", FA, FB), equal("t", FA, ("a",))), t=("terms",))
        self.assertEqual(stands_at(problem, (3, (0, 1))).own_part("t"), ((FA, 0),))

    def test_samples(self):
        source = random.Random(162)
        seen = {True: 0, False: 0}
        for _ in range(250):
            problem = random_problem(source, longest=2)
            wanted = [cell for cell in cells_over(len(problem.names)) if slow_picks(problem, cell)]
            self.check(wanted, problem)
            seen[wanted == []] += 1
            for model in models(problem):
                pick = slow_picks(problem, model.cell)[0]
                for owner in problem.owners:
                    own = [literal for literal in pick if owner_of(literal) == owner]
                    self.assertEqual(model.own_part(owner), fits(problem.card(owner), problem.names, own, model.cell))
        self.assertTrue(min(seen.values()) > 50, seen)

    def test_problems_stand_where_a_model_satisfies_them(self):
        source = random.Random(163)
        for _ in range(60):
            problem = random_problem(source, forms=("rows", "kinds", "below", "ring"), most=2, width=2)
            cells = []
            for cell in cells_over(len(problem.names)):
                found = [{}]
                for owner in problem.owners:
                    parts = all_parts(problem.card(owner), problem.names, [], cell)
                    found = [{**chosen, owner: own} for chosen in found for own in parts]
                if any(Model(problem.names, problem.theories(), cell, own).satisfies(problem) for own in found):
                    cells.append(cell)
            self.assertEqual(standing(problem).rows, tuple(cells))

    def test_conclusions_of_accepted_certificates_hold(self):
        source = random.Random(164)
        held = 0
        for _ in range(100):
            problem = random_problem(source)
            rows, clauses = random_certificate_rows(source, problem)
            for model in models(problem):
                self.assertTrue(all(model.meets(clause) for clause in clauses))
                held += len(clauses)
                if rows:
                    self.assertTrue(model.meets(check(problem, Certificate(rows))))
        self.assertTrue(held > 500, held)

    def test_problems_with_certificates_do_not_stand(self):
        for _, problem, rows in refutations(165, 40):
            self.assertTrue(refutes(problem, Certificate(rows)))
            self.check([], problem)

    def test_models_are_generated(self):
        found = models(Problem.of(NAMES))
        self.assertIs(iter(found), found)
        self.assertEqual([next(found).cell, next(found).cell], [(1, (0, 0)), (2, (0, 0))])
        found = models(None)
        with self.assertRaises(AttributeError):
            next(found)

    def test_the_problem_stays(self):
        problem = Problem.of(NAMES, (AB, SAME), o=("below",))
        before = (problem.clauses(), problem.theories())
        standing(problem), least_model(problem), list(models(problem)), list(fitting_picks(problem, (3, (0, 1))))
        self.assertEqual((problem.clauses(), problem.theories()), before)
