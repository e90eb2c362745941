import itertools
import random
import types

from helper import LookerCase
from onelooker.asrows import rows_card
from onelooker.cells import Cells
from onelooker.convexity import is_convex, is_smooth
from onelooker.deciders import cells_of
from onelooker.families import family_sets, unit_sets
from onelooker.judging import gap, gaps, is_complete, stuck_problem
from onelooker.literals import owner_of
from onelooker.policies import Policy
from onelooker.problems import Problem
from onelooker.standing import has_model
from onelooker.telling import is_stuck_point
from onelooker.typetables import own_atoms
from slow import random_card, random_literals, shared_of
from slowrounds import POLICIES, random_policy, random_theories, slow_gaps, slow_points

EVERY = ("a", "b", "c")


def sizes(*many):
    """The rows card over no names, without words, that has these sizes."""
    return ("rows", tuple(((size, ()), ()) for size in many))


THREE = {"a": sizes(1, 2), "b": sizes(2, 3), "c": sizes(1, 3)}


class GapTest(LookerCase):

    def check(self, policy, names, theories):
        """The gaps are those found by trying; the live sets of each one make a gap. Returns whether it is complete."""
        found = list(gaps(policy, names, theories))
        self.assertEqual([heard.rows for heard, _ in found], slow_gaps(policy, names, theories))
        for heard, live in found:
            self.assertEqual(list(live), sorted(theories))
            self.assertTrue(is_stuck_point(policy, names, heard, live))
            common = heard
            for owner in live:
                self.assertIs(type(live[owner]), Cells)
                self.assertIn(live[owner], list(family_sets(owner, theories[owner], names, inside=heard)))
                common = common & live[owner]
            self.assertEqual(len(common), 0)
        first = gap(policy, names, theories)
        self.assertEqual(first, found[0] if found else None)
        self.gives(found == [], is_complete, policy, names, theories)
        self.check_stuck(stuck_problem(policy, names, theories), policy, names, theories)
        return found == []

    def check_stuck(self, problem, policy, names, theories):
        """A problem is a least stuck problem, or there is none because there is no gap (points 127, 131 and 132)."""
        if problem is None:
            self.assertEqual(slow_gaps(policy, names, theories), [])
            return
        self.assertEqual((problem.names, problem.theories()), (names, theories))
        self.assertEqual(problem.labels, tuple(range(1, len(problem) + 1)))
        pick = [problem[label][0] for label in problem]
        self.assertEqual([len(problem[label]) for label in problem], [1] * len(problem))
        self.assertFalse(has_model(problem))
        for label in problem:
            self.assertTrue(has_model(problem.drop(label)))
        allowed = Cells.where(names, [literal for literal in pick if owner_of(literal) == ""])
        known = {owner: cells_of(card, names, [each for each in pick if owner_of(each) == owner])
                 for owner, card in theories.items()}
        self.assertTrue(any(heard.within(allowed) and is_stuck_point(policy, names, heard, known)
                            for heard in unit_sets(names)))

    def test_samples(self):
        source = random.Random(250)
        seen = {True: 0, False: 0}
        for _ in range(100):
            names = EVERY[:source.randint(0, 2)]
            theories = random_theories(source, names)
            seen[self.check(random_policy(source, theories), names, theories)] += 1
        self.assertTrue(min(seen.values()) > 15, seen)

    def test_three_names(self):
        source = random.Random(251)
        seen = {True: 0, False: 0}
        for _ in range(30):
            theories = random_theories(source, EVERY)
            seen[self.check(random_policy(source, theories), EVERY, theories)] += 1
        self.assertTrue(min(seen.values()) > 5, seen)

    def test_stuck_problems_with_shared_literals(self):
        source = random.Random(257)
        seen = 0
        while seen < 6:
            names = EVERY[:source.randint(0, 3)]
            theories = {owner: random_card(source, len(names)) for owner in "opq"}
            policy = random_policy(source, theories)
            problem = stuck_problem(policy, names, theories)
            if problem is not None and any(owner_of(problem[label][0]) == "" for label in problem):
                self.check_stuck(problem, policy, names, theories)
                seen += 1

    def test_the_three_owners_of_point_137(self):
        policy = Policy(c=("size",))
        for owner in THREE:
            others = {other: THREE[other] for other in THREE if other != owner}
            self.assertTrue(self.check(policy, (), others))
        self.assertFalse(self.check(policy, (), THREE))
        self.assertIn(Cells.every(0), [heard for heard, _ in gaps(policy, (), THREE)])
        problem = stuck_problem(policy, (), THREE)
        self.assertEqual((problem.labels, problem.theories()), ((), THREE))

    def test_policies_over_two_theories(self):
        theories = {"o": ("below",), "p": ("kinds", (("k", 1), ("l", 1)))}
        for low, high in itertools.product(POLICIES, POLICIES):
            self.check(Policy(o=low, p=high), ("a", "b"), theories)

    def test_no_theories(self):
        for width in range(4):
            for policy in (Policy(), Policy(o=("size",))):
                self.assertTrue(self.check(policy, EVERY[:width], {}))
                self.assertIsNone(stuck_problem(policy, EVERY[:width], {}))

    def test_one_theory(self):
        source = random.Random(252)
        for _ in range(30):
            names = EVERY[:source.randint(0, 3)]
            self.assertTrue(self.check(random_policy(source, "o"), names, {"o": random_card(source, len(names))}))

    def test_strangers_have_no_effect(self):
        policy = Policy(q=("whole", "size"), c=("size",))
        self.assertFalse(self.check(policy, (), THREE))
        self.assertEqual(list(gaps(policy, (), THREE)), list(gaps(Policy(c=("size",)), (), THREE)))
        self.assertFalse(is_complete(Policy(z=("whole",)), (), THREE))

    def test_one_owner_tells_for_two(self):
        theories = {"o": ("kinds", (("k", 1),)), "p": ("kinds", (("k", 2),))}
        self.assertFalse(self.check(Policy(), (), theories))
        self.assertTrue(self.check(Policy(o=("size",)), (), theories))
        self.assertTrue(self.check(Policy(p=("size",)), (), theories))
        self.assertFalse(self.check(Policy(p=("same", "other")), ("a",), theories))

    def test_gaps_are_generated(self):
        found = gaps(Policy(), (), THREE)
        self.assertIsInstance(found, types.GeneratorType)
        self.assertEqual(next(found)[0], Cells(0, [(1, ()), (2, ())]))
        self.assertEqual([heard for heard, _ in found], [Cells.every(0), Cells(0, [(2, ()), (3, ())])])
        with self.assertRaises(AttributeError):
            next(gaps(None, (), THREE))


class CompleteTest(LookerCase):

    def test_more_pairs_stay_complete(self):
        source = random.Random(253)
        seen = 0
        for _ in range(60):
            names = EVERY[:source.randint(0, 3)]
            theories = random_theories(source, names)
            policy = random_policy(source, theories)
            if is_complete(policy, names, theories):
                self.assertTrue(is_complete(policy | random_policy(source, theories), names, theories))
                seen += 1
        self.assertTrue(seen > 20, seen)

    def test_the_policies_of_point_135(self):
        source = random.Random(254)
        seen = [0, 0, 0]
        for _ in range(80):
            names = EVERY[:source.randint(0, 3)]
            theories = random_theories(source, names)
            for owner in theories:
                self.assertTrue(is_complete(Policy.alike([owner], ("whole",)), names, theories))
                seen[0] += 1
            if all(is_smooth(owner, theories[owner], names) for owner in theories):
                self.assertTrue(is_complete(Policy.alike(list(theories), ("same", "some")), names, theories))
                seen[1] += len(theories) > 1
                if all(is_convex(owner, theories[owner], names) for owner in theories):
                    self.assertTrue(is_complete(Policy.alike(list(theories), ("same",)), names, theories))
                    seen[2] += len(theories) > 1
        self.assertTrue(min(seen) > 3, seen)

    def test_same_alone_is_not_enough_without_convexity(self):
        theories = {"o": ("rows", (((3, (0, 0, 1)), ()), ((3, (0, 1, 1)), ()))), "p": ("rows", (((3, (0, 1, 2)), ()),))}
        for owner, card in theories.items():
            self.assertTrue(is_smooth(owner, card, EVERY))
        self.assertFalse(is_complete(Policy.alike(("o", "p"), ("same",)), EVERY, theories))
        self.assertTrue(is_complete(Policy.alike(("o", "p"), ("same", "some")), EVERY, theories))

    def test_same_and_some_are_not_enough_without_smoothness(self):
        theories = {"o": ("kinds", (("k", 2),)), "p": ("terms",)}
        self.assertFalse(is_complete(Policy.alike(("o", "p"), ("same", "some")), EVERY, theories))

    def test_alike_cards_can_be_exchanged(self):
        source = random.Random(255)
        seen = {True: 0, False: 0}
        for _ in range(80):
            names = EVERY[:source.randint(0, 2)]
            theories = random_theories(source, names)
            policy = random_policy(source, theories)
            for owner, card in theories.items():
                if card != ("terms",) and len(own_atoms(owner, card, names)) <= 6:
                    written = {**theories, owner: rows_card(owner, card, names)}
                    wanted = is_complete(policy, names, theories)
                    self.assertEqual(is_complete(policy, names, written), wanted)
                    self.assertEqual([heard for heard, _ in gaps(policy, names, written)],
                                     [heard for heard, _ in gaps(policy, names, theories)])
                    seen[wanted] += 1
        self.assertTrue(min(seen.values()) > 20, seen)

    def test_problems_of_complete_policies_stand_or_none_of_their_picks_stands(self):
        """Point 131: under a complete policy, a pick that stands shows that the problem stands."""
        source = random.Random(256)
        seen = {True: 0, False: 0}
        while min(seen.values()) < 25:
            names = EVERY[:source.randint(0, 2)]
            theories = random_theories(source, names)
            policy = random_policy(source, theories, 0.5)
            literals = source.sample(shared_of(names), 2)
            for owner, card in theories.items():
                literals += random_literals(source, owner, card, names, 3)
            clauses = [tuple(source.choices(literals, k=source.randint(1, 2))) for _ in range(source.randint(1, 4))]
            problem = Problem(names, theories, dict(enumerate(clauses, start=1)))
            found = [pick for pick in itertools.product(*[problem[label] for label in problem])
                     if slow_points(names, theories, policy, list(pick))]
            stands = has_model(problem)
            self.assertTrue(found != [] or not stands)
            if is_complete(policy, names, theories):
                self.assertEqual(found != [], stands)
                self.assertIsNone(stuck_problem(policy, names, theories))
                seen[stands] += 1

    def test_the_arguments_stay(self):
        theories = {"c": sizes(1, 3), "a": sizes(1, 2), "b": sizes(2, 3)}
        self.gives(False, is_complete, Policy(c=("size",)), (), theories)
        self.assertEqual(list(theories), ["c", "a", "b"])
        _, live = gap(Policy(c=("size",)), (), theories)
        self.assertEqual(list(live), ["a", "b", "c"])
        live.clear()
        self.assertIsNotNone(gap(Policy(c=("size",)), (), theories))
