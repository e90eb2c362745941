import itertools
import random

from helper import LookerCase
from onelooker.certificates import Certificate
from onelooker.checking import check, refutes
from onelooker.deciding import Outcome, decide
from onelooker.errors import BadOrder
from onelooker.judging import is_complete, stuck_problem
from onelooker.literals import below, clause, equal, negated, of_kind, same, size_at_most, turn, word
from onelooker.names import cells_over
from onelooker.policies import Policy
from onelooker.problems import Problem
from onelooker.standing import least_model
from onelooker.trimming import trimmed
from slow import random_literals, random_problem, shared_of, slow_picks
from slowrounds import KINDS, random_policy, random_theories, slow_points

NAMES, EVERY = ("a", "b"), ("a", "b", "c")
AB, SIZE_1, SIZE_2 = same("a", "b"), size_at_most(1), size_at_most(2)
BELOW = below("o", "a", "b")


def sizes(*many):
    """The rows card over no names, without words, that has these sizes."""
    return ("rows", tuple(((size, ()), ()) for size in many))


THREE = {"a": sizes(1, 2), "b": sizes(2, 3), "c": sizes(1, 3)}


def narrow_problem(source, most=5):
    """Some problem whose theories often have models at few cells only."""
    names = EVERY[:source.randint(0, 3)]
    theories = random_theories(source, names)
    literals = source.sample(shared_of(names), 2)
    for owner, card in theories.items():
        literals += random_literals(source, owner, card, names, 4)
    return Problem(names, theories, {
        label: tuple(source.choices(literals, k=source.randint(1, 3)))
        for label in source.sample(range(1, 1000), source.randint(0, most))})


class OutcomeTest(LookerCase):

    def test_attributes(self):
        outcome = Outcome("open", None, None, ())
        self.assertEqual((outcome.verdict, outcome.model, outcome.certificate, outcome.pick), ("open", None, None, ()))
        outcome = Outcome("x", 1, 2, 3)
        self.assertEqual((outcome.verdict, outcome.model, outcome.certificate, outcome.pick), ("x", 1, 2, 3))


class DecideTest(LookerCase):

    def verdict(self, problem, policy):
        """The verdict by point 153, found by trying all cells and picks, and the picks that stand under the policy."""
        picks = list(itertools.product(*[problem[label] for label in problem.labels]))
        stand = {pick for pick in picks if slow_points(problem.names, problem.theories(), policy, list(pick))}
        if any(slow_picks(problem, cell) for cell in cells_over(len(problem.names))):
            return "model", stand
        return "open" if stand else "certificate", stand

    def check(self, problem, policy, **more):
        """The outcome is right by points 153 and 154; returns the verdict."""
        found = decide(problem, policy, **more)
        wanted, stand = self.verdict(problem, policy)
        self.assertIs(type(found), Outcome)
        self.assertEqual(found.verdict, wanted)
        self.assertEqual([found.model is not None, found.certificate is not None, found.pick is not None],
                         [wanted == "model", wanted == "certificate", wanted == "open"])
        if wanted == "model":
            self.assertEqual(found.model, least_model(problem))
        elif wanted == "open":
            self.assertIs(type(found.pick), tuple)
            self.assertIn(found.pick, stand)
        else:
            self.check_certificate(problem, found.certificate)
        return wanted

    def check_certificate(self, problem, certificate):
        """A certificate as in point 154."""
        self.assertIs(type(certificate), Certificate)
        self.assertEqual(check(problem, certificate), ())
        self.assertTrue(refutes(problem, certificate))
        self.assertEqual(trimmed(certificate), certificate)
        picks = 1
        for label in problem:
            picks *= len(problem[label])
        self.assertLessEqual(len(certificate), 1000 * (picks + 1))

    def test_samples(self):
        source = random.Random(310)
        seen = {"model": 0, "open": 0, "certificate": 0}
        for _ in range(250):
            problem = narrow_problem(source)
            seen[self.check(problem, random_policy(source, problem.owners, source.choice((0.1, 0.3))))] += 1
        self.assertTrue(min(seen.values()) > 15, seen)

    def test_all_forms_of_cards(self):
        source = random.Random(311)
        seen = {"model": 0, "open": 0, "certificate": 0}
        for _ in range(200):
            problem = random_problem(source, clauses=6, longest=2)
            seen[self.check(problem, random_policy(source, problem.owners, 0.05))] += 1
        self.assertTrue(min(seen.values()) > 4, seen)

    def test_complete_policies_leave_nothing_open(self):
        source = random.Random(312)
        seen = {"model": 0, "certificate": 0}
        while min(seen.values()) < 40:
            problem = narrow_problem(source)
            policy = random_policy(source, problem.owners, 0.5)
            if is_complete(policy, problem.names, problem.theories()):
                seen[decide(problem, policy).verdict] += 1

    def test_orders_do_not_change_the_verdict(self):
        source = random.Random(313)
        for _ in range(60):
            problem = narrow_problem(source)
            policy = random_policy(source, problem.owners)
            wanted = self.check(problem, policy)
            for _ in range(2):
                order = list(problem.labels)
                source.shuffle(order)
                self.assertEqual(self.check(problem, policy, order=tuple(order)), wanted)

    def test_without_clauses(self):
        for names in ((), NAMES, EVERY):
            self.assertEqual(self.check(Problem.of(names), Policy()), "model")
        self.assertEqual(self.check(Problem((), THREE, {}), Policy(c=("size",))), "open")
        self.assertEqual(decide(Problem((), THREE, {}), Policy(c=("size",))).pick, ())
        self.assertEqual(self.check(Problem((), THREE, {}), Policy(b=("size",), c=("size",))), "certificate")
        self.assertEqual(self.check(Problem((), THREE, {}), Policy(a=("whole",))), "certificate")
        for owner in THREE:
            left = {other: THREE[other] for other in THREE if other != owner}
            self.assertEqual(self.check(Problem((), left, {}), Policy()), "model")

    def test_stuck_problems_are_open(self):
        source = random.Random(314)
        seen = 0
        while seen < 25:
            names = EVERY[:source.randint(0, 3)]
            theories = random_theories(source, names)
            policy = random_policy(source, theories)
            problem = stuck_problem(policy, names, theories)
            if problem is not None:
                self.assertEqual(self.check(problem, policy), "open")
                for label in problem:
                    self.assertEqual(decide(problem.drop(label), policy).verdict, "model")
                every = Policy.alike(list(theories), KINDS)
                self.assertEqual(self.check(problem, every), "certificate")
                seen += 1

    def test_an_example_of_each_verdict(self):
        card = ("kinds", (("k", 0), ("l", 1)))
        both = [(of_kind("k", name, "l"),) for name in NAMES]
        problem = Problem.of(NAMES, *both, (BELOW, turn("u", "a", "b", 1)), k=card, o=("below",), u=("ring", 2))
        self.assertEqual(self.check(problem, Policy()), "open")
        self.assertEqual(self.check(problem, Policy(k=("same",))), "certificate")
        self.assertEqual(self.check(problem, Policy(o=("other",))), "open")
        self.assertEqual(self.check(problem, Policy(o=("other",), u=("other",))), "certificate")
        self.assertEqual(self.check(problem.drop(2), Policy()), "model")

    def test_some_demands(self):
        theories = {"m": ("kinds", (("k", 2),)), "o": ("below",)}
        apart = [(below("o", low, high),) for low, high in (("a", "b"), ("b", "c"))]
        problem = Problem(EVERY, theories, dict(enumerate(apart, start=1)))
        self.assertEqual(self.check(problem, Policy()), "open")
        self.assertEqual(self.check(problem, Policy(m=("same",))), "open")
        self.assertEqual(self.check(problem, Policy(m=("same", "some"))), "certificate")
        self.assertEqual(self.check(problem, Policy(m=("size",))), "certificate")
        self.assertEqual(self.check(problem, Policy(o=("same", "some"))), "open")
        self.assertEqual(self.check(problem, Policy(o=("other",))), "certificate")
        self.assertEqual(self.check(problem, Policy(o=("whole",))), "certificate")

    def test_terms(self):
        fa, fb = ("f", ("a",)), ("f", ("b",))
        clauses = [(equal("t", fa, ("a",)), equal("t", fa, ("g", ("b",)))), (equal("t", fb, ("b",)),),
                   (negated(equal("t", ("g", ("b",)), fa)),)]
        problem = Problem.of(NAMES, *clauses, t=("terms",), o=("below",))
        self.assertEqual(self.check(problem, Policy()), "model")
        problem = problem.put(9, (BELOW,)).put(10, (equal("t", fa, fb),))
        self.assertEqual(self.check(problem, Policy()), "open")
        self.assertEqual(self.check(problem, Policy(t=("size", "other"))), "open")
        self.assertEqual(self.check(problem, Policy(t=("same",))), "certificate")
        self.assertEqual(self.check(problem, Policy(o=("other",), t=("size",))), "certificate")
        self.assertEqual(self.check(problem.put(4, (negated(equal("t", fa, fb)), AB)), Policy()), "certificate")

    def test_literals_and_their_negations(self):
        problem = Problem.of(NAMES, clause(AB, negated(BELOW)), clause(BELOW, negated(AB)), (BELOW, AB),
                             (BELOW, negated(BELOW)), (negated(AB), SIZE_1), (negated(SIZE_1),), o=("below",))
        self.assertEqual(self.check(problem, Policy()), "certificate")
        self.assertEqual(self.check(problem.drop(3), Policy(o=KINDS)), "model")
        torn = Problem.of((), (SIZE_1,), (negated(SIZE_1), SIZE_2), (negated(SIZE_2),))
        self.assertEqual(self.check(torn, Policy()), "certificate")

    def test_a_clause_that_has_nothing_to_do_with_it(self):
        """Three terms cannot all differ if each has one of two values, whatever the first clause says."""
        terms = [(f"f{number}", ("a",)) for number in range(3)]
        values = [("a",), ("b",)]
        clauses = [tuple(equal("t", term, value) for value in values) for term in terms]
        clauses += [(negated(equal("t", low, high)),) for low, high in itertools.combinations(terms, 2)]
        for first in ((AB, BELOW), (SIZE_2, negated(AB), BELOW)):
            problem = Problem.of(NAMES, first, *clauses, t=("terms",), o=("below",))
            for order in (None, tuple(range(len(problem), 0, -1)), (2, 1, *range(3, len(problem) + 1))):
                self.assertEqual(self.check(problem, Policy(o=("other",)), order=order), "certificate")
        wide = [tuple(equal("t", term, (name,)) for name in EVERY) for term in [*terms, ("f3", ("a",))]]
        apart = [(negated(equal("t", low, high)),) for low, high in itertools.combinations([*terms, ("f3", ("a",))], 2)]
        problem = Problem.of(EVERY, (BELOW, negated(BELOW)), *wide, *apart, t=("terms",), o=("below",))
        self.check_certificate(problem, decide(problem, Policy()).certificate)

    def test_a_literal_that_the_policy_needs_and_the_theories_do_not(self):
        """Without the word q, r does not tell a size, though r and d have no common cell by p and s alone."""
        one, two, three = (1, (0, 0)), (2, (0, 1)), (3, (0, 0))
        cards = {"r": ("rows", ((one, ("p", "q")), (two, ("q",)), (three, ("p",)))),
                 "d": ("rows", ((one, ()), (two, ("s",)), (three, ())))}
        clauses = [(word("r", "p"),), (word("r", "q"),), (word("d", "s"),)]
        problem = Problem(NAMES, cards, dict(enumerate(clauses, start=1)))
        told = Policy(r=("size",))
        self.assertEqual(self.check(problem, told), "certificate")
        self.assertEqual(self.check(problem.drop(2), told), "open")
        self.assertEqual(self.check(problem.drop(1), told), "model")
        self.assertEqual(self.check(problem.put(4, (word("r", "q"), AB)), told), "certificate")

    def test_far_too_many_picks_to_try(self):
        words = [word("r", f"w{number}") for number in range(6)]
        rows = ("rows", tuple(sorted(((size, (0, 0)), (f"w{number}",)) for number in range(6) for size in (1, 2, 3))))
        everything = tuple(sorted(words + [AB, negated(AB)]))
        clauses = {label: everything for label in range(1, 38)}
        problem = Problem(NAMES, {"r": rows, "o": ("below",)}, {
            **clauses, 38: (words[0], BELOW), 39: (words[1], BELOW), 40: (negated(AB), words[2])})
        self.check_certificate(problem, decide(problem, Policy(r=("same",))).certificate)
        self.assertEqual(decide(problem, Policy()).verdict, "open")
        self.assertEqual(decide(problem.drop(40), Policy()).verdict, "open")
        self.assertEqual(decide(problem.drop(38).drop(40), Policy()).verdict, "model")

    def test_strangers_in_the_policy(self):
        problem = Problem((), THREE, {})
        self.assertEqual(self.check(problem, Policy(z=KINDS, c=("size",))), "open")

    def test_the_arguments_stay(self):
        problem = Problem.of(NAMES, (BELOW, AB), (negated(BELOW),), o=("below",))
        before = (problem.clauses(), problem.theories())
        policy = Policy(o=("same",))
        self.gives("model", lambda asked: decide(asked, policy).verdict, problem)
        self.assertEqual((problem.clauses(), problem.theories(), policy), (*before, Policy(o=("same",))))


class OrderTest(LookerCase):

    def test_wrong_orders(self):
        problem = Problem(NAMES, {}, {2: (AB,), 1: (SIZE_1,), 30: (SIZE_2,)})
        self.assertEqual(decide(problem, Policy(), order=(30, 1, 2)).verdict, "model")
        for order in [(), (1, 2), (1, 2, 2), (1, 2, 30, 30), (1, 2, 3), (1, 2, 30, 4), (True, 2, 30), (1, 2, "30"),
                      (1, 2, None), (1.0, 2, 30)]:
            self.refuses(BadOrder, {"value": order}, decide, problem, Policy(), order=order)

    def test_without_clauses(self):
        self.assertEqual(decide(Problem.of(()), Policy(), order=()).verdict, "model")
        self.refuses(BadOrder, {"value": (1,)}, decide, Problem.of(()), Policy(), order=(1,))

    def test_none_is_the_order_of_the_labels(self):
        problem = Problem.of(NAMES, (AB, BELOW), (SIZE_1,), (negated(AB), SIZE_2), o=("below",))
        self.assertEqual(decide(problem, Policy()).verdict, decide(problem, Policy(), order=None).verdict)
