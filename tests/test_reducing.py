import random

from helper import LookerCase
from onelooker.errors import BadPolicy, NotComplete
from onelooker.judging import is_complete
from onelooker.policies import Policy
from onelooker.reducing import extended, reduced
from slowrounds import KINDS, random_policy, random_theories, slow_gaps

EVERY = ("a", "b", "c")
ONE_TWO = {"a": ("kinds", (("k", 1),)), "b": ("kinds", (("k", 2),))}


def slow_reduced(policy, names, theories):
    """The pairs that stay, by the words of point 138."""
    kept = list(policy.rows)
    for row in sorted(policy.rows, reverse=True):
        left = [other for other in kept if other != row]
        if any(kind == "some" and (owner, "same") not in left for owner, kind in left):
            continue
        told = {owner: tuple(kind for other, kind in left if other == owner) for owner, _ in left}
        if slow_gaps(Policy(**told), names, theories) == []:
            kept = left
    return tuple(kept)


def slow_extended(policy, names, theories):
    """The policy that extended should return, by the words of the interface."""
    for kind in sorted(KINDS):
        for owner in sorted(theories):
            if slow_gaps(policy, names, theories) == []:
                return policy
            policy = policy | Policy.alike([owner], ("same", kind) if kind == "some" else (kind,))
    return policy


class ReducedTest(LookerCase):

    def test_samples(self):
        source = random.Random(260)
        seen = {True: 0, False: 0}
        for _ in range(60):
            names = EVERY[:source.randint(0, 2)]
            theories = random_theories(source, names)
            policy = random_policy(source, [*theories, "z"])
            complete = is_complete(policy, names, theories)
            seen[complete] += 1
            if not complete:
                self.refuses(NotComplete, {}, reduced, policy, names, theories)
                continue
            found = reduced(policy, names, theories)
            self.assertIs(type(found), Policy)
            self.assertEqual(found.rows, slow_reduced(policy, names, theories))
            self.assertTrue(policy.covers(found) and is_complete(found, names, theories))
            self.assertEqual(found.kinds("z"), ())
            for owner, kind in found:
                try:
                    self.assertFalse(is_complete(found.without(owner, kind), names, theories))
                except BadPolicy:
                    self.assertEqual(kind, "same")
        self.assertTrue(min(seen.values()) > 10, seen)

    def test_pairs_are_left_out_in_descending_order(self):
        policy = Policy(a=("size",), b=("size",))
        self.assertEqual(reduced(policy, (), ONE_TWO), Policy(a=("size",)))
        every = Policy.alike(("a", "b"), KINDS)
        self.assertEqual(reduced(every, (), ONE_TWO), Policy(a=("size",)))

    def test_same_stays_with_some(self):
        theories = {"a": ("below",), "b": ("ring", 2)}
        policy = Policy.alike(("a", "b"), ("same", "some"))
        found = reduced(policy, EVERY, theories)
        self.assertEqual(found.rows, slow_reduced(policy, EVERY, theories))
        for owner, kind in found:
            self.assertTrue(kind != "some" or (owner, "same") in found)

    def test_strangers_and_theories_without_gaps(self):
        self.assertEqual(reduced(Policy(z=("same", "some", "whole")), (), {}), Policy())
        self.assertEqual(reduced(Policy(a=KINDS, z=KINDS), EVERY, {"a": ("below",)}), Policy())

    def test_not_complete(self):
        for policy in (Policy(), Policy(a=("same",)), Policy(z=("size",))):
            self.refuses(NotComplete, {}, reduced, policy, (), ONE_TWO)


class ExtendedTest(LookerCase):

    def test_samples(self):
        source = random.Random(261)
        seen = {True: 0, False: 0}
        for _ in range(50):
            names = EVERY[:source.randint(0, 2)]
            theories = random_theories(source, names)
            policy = random_policy(source, [*theories, "z"])
            found = extended(policy, names, theories)
            self.assertEqual(found, slow_extended(policy, names, theories))
            self.assertTrue(found.covers(policy) and is_complete(found, names, theories))
            seen[found == policy] += 1
        self.assertTrue(min(seen.values()) > 10, seen)

    def test_kinds_first_then_owners(self):
        self.assertEqual(extended(Policy(), (), ONE_TWO), Policy(a=("other", "same", "size"), b=("other", "same")))
        names = ("a", "b")
        theories = {"b": ("ring", 2), "a": ("below",)}
        self.assertEqual(extended(Policy(), names, theories).rows,
                         slow_extended(Policy(), names, theories).rows)

    def test_complete_policies_stay(self):
        policy = Policy(a=("size",), z=("whole",))
        self.assertEqual(extended(policy, (), ONE_TWO), policy)
        self.assertEqual(extended(Policy(), (), {}), Policy())
        self.assertEqual(extended(Policy(z=("same", "some")), EVERY, {}), Policy(z=("same", "some")))
        self.assertEqual(extended(Policy(), EVERY, {"a": ("below",)}), Policy())

    def test_strangers_stay(self):
        found = extended(Policy(z=("size",)), (), ONE_TWO)
        self.assertEqual(found, Policy(z=("size",), a=("other", "same", "size"), b=("other", "same")))
