import random
import types

from helper import LookerCase
from onelooker.asking import (alike, certificate_for, counter_models, facts, follows, follows_text, sharpened, slimmed,
                              telling_model)
from onelooker.certificates import Certificate
from onelooker.checking import check
from onelooker.deciding import decide
from onelooker.errors import (BadClause, BadLiteral, BadText, CardMismatch, NamesMismatch, NoLabel, NoOwner, NotComplete,
                              Stands, TooMany)
from onelooker.judging import is_complete
from onelooker.literals import below, equal, negated, of_kind, same, size_at_most, word
from onelooker.models import Model
from onelooker.names import cells_over
from onelooker.policies import Policy
from onelooker.problems import Problem
from onelooker.reading import read_clause
from onelooker.standing import models, standing
from onelooker.trimming import trimmed
from onelooker.writing import write_clause
from slow import random_problem, shared_of, slow_picks
from slowasking import (all_models, forty_terms, holds_in, random_clause, satisfying, slow_follows, slow_stands,
                        table_problem, tight_problem)
from slowrounds import KINDS, random_policy

NAMES, EVERY = ("a", "b"), ("a", "b", "c")
AB, SIZE_1, SIZE_2 = same("a", "b"), size_at_most(1), size_at_most(2)
BELOW, ABOVE = below("o", "a", "b"), below("o", "b", "a")
KIND_CARDS = {"k": ("kinds", (("k", 1),)), "m": ("kinds", (("k", 2),))}


def denied(problem, clause):
    """The problem when a clause is denied, by the words of point 156."""
    clauses = problem.clauses()
    for atom, sign in sorted(set(clause)):
        clauses[min(label for label in range(1, 1000) if label not in clauses)] = ((atom, not sign),)
    return Problem(problem.names, problem.theories(), clauses)


class DeniedTest(LookerCase):

    def test_wrong_clauses(self):
        """Point 157: every function that takes a clause checks it first."""
        problem = Problem.of(NAMES, (BELOW,), o=("below",))
        nine = tuple(shared_of(NAMES)) + (BELOW, negated(BELOW), ABOVE)
        calls = [lambda value: follows(problem, value), lambda value: list(counter_models(problem, value)),
                 lambda value: certificate_for(problem, value, Policy()), lambda value: sharpened(problem, value)]
        for call in calls:
            for value in ((), [], [AB], None, 7, AB[0][0], nine):
                self.refuses(BadClause, {"value": value}, call, value)
            self.refuses(BadLiteral, {"value": "a"}, call, ("a", AB))
            self.refuses(BadLiteral, {"value": AB[0]}, call, (BELOW, *AB))
            self.refuses(NoOwner, {"owner": "q"}, call, (AB, below("q", "a", "b"), None))
            self.refuses(BadLiteral, {"value": same("a", "c")}, call, (same("a", "c"),))
        self.gives(False, follows, problem, (AB,) * 9)
        self.gives(True, follows, problem, tuple(nine[1:]))

    def test_too_many_clauses(self):
        full = Problem((), {}, {label: (SIZE_2,) for label in range(1, 41)})
        for call in (follows, lambda *told: list(counter_models(*told)), sharpened,
                     lambda *told: certificate_for(*told, Policy())):
            if call is not sharpened:
                self.refuses(TooMany, {"what": "clauses"}, call, full, (SIZE_2,))
                self.refuses(TooMany, {"what": "clauses"}, call, full.drop(7), (SIZE_2, SIZE_1))
            self.refuses(BadClause, {"value": ()}, call, full, ())
        self.gives(True, follows, full.drop(7), (SIZE_2,))
        self.gives(True, follows, full, (SIZE_2,), without=(40,))
        self.refuses(TooMany, {"what": "clauses"}, follows, full, (SIZE_2, SIZE_1), without=(40,))
        self.gives(True, follows, full, (SIZE_2, SIZE_1), without=(40, 1))

    def test_too_many_terms(self):
        literals = forty_terms("t", more=1)
        full = Problem(("a",), {"t": ("terms",)}, {at + 1: tuple(literals[8 * at:8 * at + 8]) for at in range(5)})
        self.gives(False, follows, full, (literals[3],))
        self.refuses(TooMany, {"what": "terms"}, follows, full, (literals[40],))
        self.refuses(TooMany, {"what": "terms"}, follows, full, (literals[3], literals[40]), without=())
        self.refuses(TooMany, {"what": "terms"}, lambda: list(counter_models(full, (literals[40],))))
        self.refuses(TooMany, {"what": "terms"}, certificate_for, full, (literals[40],), Policy())
        self.gives(False, follows, full, (literals[40],), without=[2])
        crowded = Problem(("a",), {"t": ("terms",)}, {**full.clauses(), **{at: (SIZE_1,) for at in range(6, 41)}})
        self.refuses(TooMany, {"what": "clauses"}, follows, crowded, (literals[40],))


class FollowsTest(LookerCase):

    def test_what_holds_in_every_model(self):
        source = random.Random(320)
        seen = {True: 0, False: 0}
        while min(seen.values()) < 80:
            problem = tight_problem(source)
            for _ in range(4):
                clause = random_clause(source, problem)
                wanted = slow_follows(problem, clause)
                self.gives(wanted, follows, problem, clause)
                seen[wanted] += 1

    def test_without_some_clauses(self):
        source = random.Random(321)
        seen = {True: 0, False: 0}
        for _ in range(150):
            problem = tight_problem(source)
            for label in problem.labels[:3]:
                left_out = [label, *source.choices(problem.labels, k=source.randint(0, 2))]
                left = [other for other in problem if other not in left_out]
                wanted = slow_follows(problem, problem[label], left)
                self.gives(wanted, follows, problem, problem[label], without=tuple(left_out))
                seen[wanted] += 1
        self.assertTrue(min(seen.values()) > 40, seen)

    def test_terms(self):
        source = random.Random(322)
        seen = {True: 0, False: 0}
        for _ in range(60):
            problem = random_problem(source, clauses=3, longest=2, most=2, forms=("terms", "below"))
            clause = random_clause(source, problem, 2)
            asked = denied(problem, clause)
            wanted = not any(slow_picks(asked, cell) for cell in cells_over(len(problem.names)))
            self.gives(wanted, follows, problem, clause)
            seen[wanted] += 1
        self.assertTrue(min(seen.values()) > 10, seen)

    def test_examples(self):
        problem = Problem.of(NAMES, (AB, BELOW), (ABOVE, negated(BELOW)), o=("below",))
        self.gives(True, follows, problem, (AB,))
        self.gives(False, follows, problem, (AB,), without=[2])
        self.gives(True, follows, problem, (negated(BELOW),), without=(1,))
        self.gives(False, follows, problem, (SIZE_1, SIZE_2))
        self.gives(True, follows, problem, (AB, BELOW), without=(2, 2))
        self.gives(True, follows, problem, (BELOW, negated(BELOW)))
        self.gives(True, follows, Problem.of((), (SIZE_1,)), (SIZE_2,))
        self.gives(False, follows, Problem.of(()), (SIZE_2, SIZE_1))
        self.gives(True, follows, Problem((), KIND_CARDS, {}), (SIZE_2,))

    def test_labels_that_are_not_in_use(self):
        problem = Problem(NAMES, {"o": ("below",)}, {2: (BELOW,), 5: (ABOVE,)})
        self.refuses(NoLabel, {"label": 3}, follows, problem, (AB,), without=(5, 3, 4))
        self.refuses(NoLabel, {"label": 1000}, follows, problem, (AB,), without=[1000])
        self.refuses(BadClause, {"value": ()}, follows, problem, (), without=(3,))
        full = Problem((), {}, {label: (SIZE_2,) for label in range(1, 41)})
        self.refuses(NoLabel, {"label": 41}, follows, full, (SIZE_2,), without=(41,))

    def test_arguments_stay(self):
        without = [2]
        problem = Problem.of(NAMES, (AB,), (SIZE_1,))
        self.gives(False, follows, problem, (SIZE_1,), without=without)
        self.assertEqual((without, problem), ([2], Problem.of(NAMES, (AB,), (SIZE_1,))))


class TextTest(LookerCase):

    def test_the_same_as_for_the_clause(self):
        source = random.Random(323)
        seen = {True: 0, False: 0}
        for _ in range(100):
            problem = tight_problem(source)
            clause = tuple(sorted(set(random_clause(source, problem))))
            without = tuple(problem.labels[:source.randint(0, 1)])
            wanted = follows(problem, clause, without=without)
            self.gives(wanted, follows_text, problem, write_clause(clause), without=without)
            seen[wanted] += 1
        self.assertTrue(min(seen.values()) > 20, seen)

    def test_texts_that_cannot_be_read(self):
        problem = Problem.of(NAMES, (BELOW,), o=("below",))
        self.gives(True, follows_text, problem, "o: a < b")
        nine = write_clause(tuple(sorted({*shared_of(NAMES), BELOW, negated(BELOW), ABOVE})))
        for text in ("", "a < b", "o: a < c", "q: a < b", "a = b or a = b", "o: a < b\n", "o:  a < b", nine,
                     "o: a < b or a = b", "?"):
            found = self.refuses(BadClause, {"value": text}, follows_text, problem, text)
            self.assertIs(type(found.__cause__), BadText)
            with self.assertRaises(BadText):
                read_clause(text, NAMES, {"o": ("below",)})

    def test_then_the_errors_of_follows(self):
        problem = Problem.of(NAMES, (BELOW,), o=("below",))
        found = self.refuses(BadClause, {"value": ()}, follows_text, problem, "false")
        self.assertIsNone(found.__cause__)
        self.refuses(NoLabel, {"label": 2}, follows_text, problem, "a = b", without=(1, 2))
        self.refuses(BadClause, {"value": "a = c"}, follows_text, problem, "a = c", without=(2,))
        full = Problem((), {}, {label: (SIZE_2,) for label in range(1, 41)})
        self.refuses(TooMany, {"what": "clauses"}, follows_text, full, "size <= 1")


class CounterModelTest(LookerCase):

    def test_the_models_of_the_denied_problem(self):
        source = random.Random(324)
        seen = {True: 0, False: 0}
        for _ in range(120):
            problem = random_problem(source, clauses=3, longest=2)
            clause = random_clause(source, problem)
            found = list(counter_models(problem, clause))
            self.assertEqual(found, list(models(denied(problem, clause))))
            self.assertEqual(found == [], follows(problem, clause))
            for model in found:
                self.assertTrue(model.satisfies(problem) and not model.meets(clause))
            seen[found == []] += 1
        self.assertTrue(min(seen.values()) > 15, seen)

    def test_going_through_all_models(self):
        source = random.Random(325)
        for _ in range(60):
            problem = table_problem(source, clauses=3)
            clause = random_clause(source, problem)
            wanted = {cell for cell, atoms in satisfying(problem) if not holds_in(problem.names, (cell, atoms), clause)}
            self.assertEqual([model.cell for model in counter_models(problem, clause)], sorted(wanted))

    def test_it_generates(self):
        problem = Problem.of(NAMES, (BELOW,), o=("below",))
        found = counter_models(problem, (SIZE_2,))
        self.assertIsInstance(found, types.GeneratorType)
        self.assertEqual(list(found), [Model(NAMES, {"o": ("below",)}, (3, (0, 1)), {"o": ((0, 1),)})])
        self.assertEqual(list(counter_models(problem, (negated(AB),))), [])
        wrong = counter_models(problem, ())
        self.refuses(BadClause, {"value": ()}, next, wrong)


class CertificateTest(LookerCase):

    def check(self, problem, clause, policy):
        """A certificate as in point 160; returns it."""
        found = certificate_for(problem, clause, policy)
        self.assertIs(type(found), Certificate)
        self.assertLessEqual(set(check(problem, found)), set(clause))
        self.assertEqual(trimmed(found), found)
        picks = 1
        for label in problem:
            picks *= len(problem[label])
        self.assertLessEqual(len(found), 1000 * (picks + 1))
        return found

    def test_complete_policies(self):
        source = random.Random(326)
        seen = {True: 0, False: 0}
        while min(seen.values()) < 60:
            problem = random_problem(source, clauses=4, longest=2)
            clause = random_clause(source, problem, 2)
            policy = random_policy(source, problem.owners, 0.7)
            if is_complete(policy, problem.names, problem.theories()):
                wanted = follows(problem, clause)
                if wanted:
                    self.check(problem, clause, policy)
                else:
                    self.refuses(Stands, {}, certificate_for, problem, clause, policy)
                seen[wanted] += 1

    def test_other_policies(self):
        source = random.Random(327)
        seen = {"model": 0, "open": 0, "certificate": 0}
        for _ in range(400):
            problem = random_problem(source, clauses=4, longest=2)
            clause = random_clause(source, problem, 2)
            verdict = decide(denied(problem, clause), Policy()).verdict
            if verdict == "certificate":
                self.check(problem, clause, Policy())
            else:
                self.refuses(Stands if verdict == "model" else NotComplete, {}, certificate_for, problem, clause, Policy())
            seen[verdict] += 1
        self.assertTrue(min(seen.values()) > 3, seen)

    def test_examples(self):
        problem = Problem.of(NAMES, (BELOW,), o=("below",))
        for clause in ((negated(AB),), (negated(ABOVE), SIZE_1), (BELOW, AB), (ABOVE, negated(ABOVE))):
            self.check(problem, clause, Policy(o=KINDS))
        self.refuses(Stands, {}, certificate_for, problem, (SIZE_2,), Policy(o=KINDS))
        torn = Problem.of(NAMES, (of_kind("k", "a", "k"),), (of_kind("k", "b", "k"),), o=("below",),
                          k=("kinds", (("k", 1), ("l", 0))))
        self.refuses(NotComplete, {}, certificate_for, torn, (negated(BELOW),), Policy())
        self.check(torn, (negated(BELOW),), Policy(k=("same",)))
        self.refuses(Stands, {}, certificate_for, torn, (BELOW,), Policy())

    def test_a_problem_that_does_not_stand(self):
        problem = Problem((), KIND_CARDS, {})
        self.assertEqual(check(problem, self.check(problem, (SIZE_1,), Policy(k=("size",)))), ())

    def test_the_order_of_the_errors(self):
        problem = Problem((), KIND_CARDS, {})
        self.refuses(BadLiteral, {"value": AB}, certificate_for, problem, (SIZE_1, AB), Policy())
        open_one = Problem((), {"a": ("rows", (((1, ()), ()), ((2, ()), ()))), "b": ("rows", (((2, ()), ()), ((3, ()), ()))),
                                "c": ("rows", (((1, ()), ("p",)), ((3, ()), ("p",))))}, {})
        self.refuses(NotComplete, {}, certificate_for, open_one, (negated(word("c", "p")),), Policy())
        self.refuses(BadClause, {"value": ()}, certificate_for, open_one, (), Policy())
        full = Problem((), open_one.theories(), {label: (word("c", "p"),) for label in range(1, 41)})
        self.refuses(TooMany, {"what": "clauses"}, certificate_for, full, (SIZE_1,), Policy())


class FactsTest(LookerCase):

    def test_the_shared_literals_that_follow(self):
        source = random.Random(328)
        seen = 0
        for _ in range(80):
            problem = tight_problem(source, width=3)
            found = facts(problem)
            self.assertEqual(found, [literal for literal in sorted(shared_of(problem.names))
                                     if follows(problem, (literal,))])
            self.assertEqual(found, [literal for literal in shared_of(problem.names)
                                     if all(holds_in(problem.names, (cell, ()), (literal,)) for cell in standing(problem))])
            seen += len(found) > 0
        self.assertTrue(seen > 20, seen)

    def test_going_through_all_models(self):
        source = random.Random(329)
        for _ in range(60):
            problem = tight_problem(source)
            wanted = [literal for literal in shared_of(problem.names) if slow_follows(problem, (literal,))]
            self.gives(wanted, lambda asked: facts(asked), problem)

    def test_examples(self):
        self.gives([], facts, Problem.of(NAMES))
        self.gives([negated(AB), negated(SIZE_1)], facts, Problem.of(NAMES, (BELOW,), o=("below",)))
        self.gives(shared_of(NAMES), facts, Problem.of(NAMES, (BELOW,), (ABOVE,), o=("below",)))
        self.gives(shared_of(()), facts, Problem((), KIND_CARDS, {}))
        self.gives([negated(SIZE_1), negated(SIZE_2)], facts, Problem.of(("a",), t=("terms",)))


class SharpenedTest(LookerCase):

    def test_by_the_words_of_point_162(self):
        source = random.Random(330)
        seen = {True: 0, False: 0}
        shorter = 0
        while min(seen.values()) < 50:
            problem = tight_problem(source)
            clause = random_clause(source, problem)
            if not slow_follows(problem, clause):
                self.refuses(Stands, {}, sharpened, problem, clause)
                seen[False] += 1
                continue
            kept = sorted(set(clause))
            for literal in sorted(set(clause)):
                others = [other for other in kept if other != literal]
                if slow_follows(problem, others):
                    kept = others
            self.gives(tuple(kept), sharpened, problem, clause)
            seen[True] += 1
            shorter += 0 < len(kept) < len(set(clause))
        self.assertTrue(shorter > 5, shorter)

    def test_examples(self):
        problem = Problem.of(NAMES, (BELOW,), o=("below",))
        self.gives((negated(AB),), sharpened, problem, (negated(AB),))
        self.gives((BELOW,), sharpened, problem, (negated(SIZE_1), BELOW, negated(AB)))
        self.gives((negated(ABOVE),), sharpened, problem, (SIZE_1, negated(ABOVE)))
        torn = (negated(BELOW), BELOW)
        self.gives(torn, sharpened, Problem.of(NAMES, o=("below",)), torn)
        self.gives(torn, sharpened, Problem.of(NAMES, o=("below",)), (BELOW, *torn, SIZE_1))
        self.gives((), sharpened, Problem((), KIND_CARDS, {}), (SIZE_1,))
        self.refuses(Stands, {}, sharpened, problem, (SIZE_2, AB))


class SlimmedTest(LookerCase):

    def test_by_the_words_of_point_162(self):
        source = random.Random(331)
        dropped = 0
        for _ in range(100):
            problem = tight_problem(source)
            left = list(problem.labels)
            for label in problem.labels[::-1]:
                others = [other for other in left if other != label]
                if slow_follows(problem, problem[label], others):
                    left = others
            found = slimmed(problem)
            self.assertEqual(found, problem.only(left))
            self.assertTrue(alike(found, problem))
            for label in found:
                self.assertFalse(follows(found, found[label], without=(label,)))
            dropped += len(problem) - len(found)
        self.assertTrue(dropped > 50, dropped)

    def test_examples(self):
        problem = Problem.of(NAMES, (AB,), (AB, SIZE_1), (SIZE_2,), (negated(SIZE_1), SIZE_2))
        self.assertEqual(slimmed(problem), problem.only((1, 3)))
        self.assertEqual(slimmed(problem.put(5, (SIZE_1,))), problem.put(5, (SIZE_1,)).only((1, 3, 5)).only((5,)))
        self.assertEqual(slimmed(Problem.of(NAMES, (AB,), (AB,))), Problem.of(NAMES, (AB,)))
        self.assertEqual(slimmed(Problem.of(NAMES, (AB, negated(AB)))), Problem.of(NAMES))
        self.assertEqual(slimmed(Problem((), KIND_CARDS, {4: (SIZE_1,)})), Problem((), KIND_CARDS, {}))
        self.assertEqual(slimmed(Problem.of(())), Problem.of(()))
        self.assertEqual(problem.labels, (1, 2, 3, 4))


class AlikeTest(LookerCase):

    def check(self, first, second):
        """What point 161 says; returns whether the problems are alike."""
        each = all(follows(first, second[label]) for label in second) and all(
            follows(second, first[label]) for label in first)
        found = telling_model(first, second)
        self.gives(each, lambda low, high: alike(low, high), first, second)
        self.gives(each, lambda low, high: alike(high, low), first, second)
        if each:
            self.assertIsNone(found)
        else:
            self.assertIs(type(found), Model)
            self.assertNotEqual(found.satisfies(first), found.satisfies(second))
        return each

    def test_samples(self):
        source = random.Random(332)
        seen = {True: 0, False: 0}
        while min(seen.values()) < 40:
            first = tight_problem(source, clauses=3)
            literals = [(literal,) for label in first for literal in first[label]] + [first[label] for label in first]
            second = Problem(first.names, first.theories(), dict(enumerate(source.choices(
                literals, k=source.randint(0, 4)), start=1))) if literals else Problem(first.names, first.theories(), {})
            found = self.check(first, second)
            self.assertEqual(found, satisfying(first) == satisfying(second))
            seen[found] += 1

    def test_terms(self):
        fa = ("f", ("a",))
        first = Problem.of(NAMES, (AB,), (equal("t", fa, ("b",)),), t=("terms",))
        self.assertTrue(self.check(first, Problem.of(NAMES, (equal("t", fa, ("a",)),), (AB,), t=("terms",))))
        self.assertFalse(self.check(first, Problem.of(NAMES, (equal("t", fa, ("b",)),), t=("terms",))))
        self.assertFalse(self.check(first, Problem.of(NAMES, t=("terms",))))

    def test_examples(self):
        problem = Problem.of(NAMES, (AB,), (SIZE_1,))
        self.assertTrue(self.check(problem, problem))
        self.assertTrue(self.check(problem, Problem(NAMES, {}, {7: (SIZE_1,)}).put(3, (AB, SIZE_2))))
        self.assertFalse(self.check(problem, Problem.of(NAMES, (AB,))))
        self.assertTrue(self.check(Problem.of(()), Problem.of((), (SIZE_1, negated(SIZE_1)))))
        self.assertTrue(self.check(Problem((), KIND_CARDS, {}), Problem((), KIND_CARDS, {4: (SIZE_1,)})))
        self.assertFalse(self.check(Problem.of(NAMES, (AB,)), Problem.of(NAMES, (negated(AB),))))

    def test_errors(self):
        first = Problem.of(NAMES, o=("below",), k=("ring", 2))
        for call in (alike, telling_model):
            self.refuses(NamesMismatch, {}, call, first, Problem.of(EVERY, o=("below",), k=("ring", 2)))
            self.refuses(NamesMismatch, {}, call, first, Problem.of(("a", "c"), o=("ring", 2)))
            self.refuses(CardMismatch, {"owner": "k"}, call, first, Problem.of(NAMES, o=("below",)))
            self.refuses(CardMismatch, {"owner": "k"}, call, Problem.of(NAMES, o=("below",)), first)
            self.refuses(CardMismatch, {"owner": "k"}, call, first, Problem.of(NAMES, o=("terms",), k=("ring", 3)))
            self.refuses(CardMismatch, {"owner": "a"}, call, first, Problem.of(NAMES, a=("below",), k=("ring", 3)))
            self.refuses(CardMismatch, {"owner": "o"}, call, first, Problem.of(NAMES, p=("below",), k=("ring", 2)))

    def test_the_models_are_all_models(self):
        """The samples of this file go through models in which all own atoms are decided."""
        self.assertEqual(len(all_models((), {})), 3)
        self.assertEqual(len(all_models(("a", "b"), {"o": ("below",)})), 3 + 2 * 3)
        self.assertTrue(slow_stands(Problem.of(NAMES, (BELOW,), o=("below",))))
