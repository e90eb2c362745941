import itertools
import random

from helper import LookerCase
from onelooker.errors import BadName, BadPolicy
from onelooker.policies import Policy
from slowrounds import KINDS, random_policy


class PolicyTest(LookerCase):

    def test_rows(self):
        policy = Policy(b=("size",), a=("some", "same", "some"))
        self.assertEqual(policy.rows, (("a", "same"), ("a", "some"), ("b", "size")))
        self.assertEqual(list(policy), list(policy.rows))
        self.assertEqual(len(policy), 3)
        self.assertTrue(("a", "some") in policy and ("b", "size") in policy)
        self.assertFalse(("b", "same") in policy or ("c", "size") in policy or "a" in policy)
        self.assertEqual((policy.kinds("a"), policy.kinds("b"), policy.kinds("c")), (("same", "some"), ("size",), ()))

    def test_kinds(self):
        self.assertEqual(Policy.KINDS, KINDS)
        self.assertEqual(Policy(a=("whole", "some", "size", "same", "other")).kinds("a"), KINDS)
        for kind in KINDS:
            if kind != "some":
                self.assertEqual(Policy(a=(kind,)).rows, (("a", kind),))

    def test_no_pairs(self):
        self.assertEqual((Policy().rows, len(Policy()), list(Policy())), ((), 0, []))
        self.assertEqual(Policy(a=()), Policy())
        self.assertEqual(Policy(a=(), b=("same",)).rows, (("b", "same"),))

    def test_equal(self):
        self.assertEqual(Policy(a=("same", "some"), b=("size",)), Policy(b=("size", "size"), a=("some", "same")))
        self.assertNotEqual(Policy(a=("same",)), Policy(b=("same",)))
        self.assertNotEqual(Policy(a=("same",)), Policy(a=("same", "some")))
        self.assertNotEqual(Policy(), ())

    def test_wrong_owners_and_kinds(self):
        self.refuses(BadName, {"value": "A"}, Policy, A=("same",))
        self.refuses(BadName, {"value": "ab"}, Policy, ab=())
        self.refuses(BadName, {"value": ""}, Policy.alike, ("",), ("same",))
        self.refuses(BadPolicy, {"owner": "a", "kind": "Same"}, Policy, a=("same", "Same", "bad"))
        self.refuses(BadPolicy, {"owner": "a", "kind": 1}, Policy, a=(1, "same"))
        self.refuses(BadPolicy, {"owner": "a", "kind": None}, Policy, a=("some", None))
        self.refuses(BadPolicy, {"owner": "a", "kind": ()}, Policy, a=((), "same"))
        self.refuses(BadPolicy, {"owner": "a", "kind": "some"}, Policy, a=("some", "other", "whole", "size"))

    def test_the_first_owner_in_ascending_order_is_told(self):
        self.refuses(BadPolicy, {"owner": "b", "kind": "x"}, Policy, c=("y",), b=("x",), a=("same",))
        self.refuses(BadName, {"value": "B"}, Policy, c=("y",), B=("x",))
        self.refuses(BadPolicy, {"owner": "a", "kind": "some"}, Policy, bb=("same",), a=("some",))
        self.refuses(BadName, {"value": "aa"}, Policy, aa=("some",), b=("some",))

    def test_alike(self):
        self.assertEqual(Policy.alike(("b", "a"), ("same", "some")), Policy(a=("same", "some"), b=("same", "some")))
        self.assertEqual(Policy.alike(["a"], ("size",)), Policy(a=("size",)))
        self.assertEqual(Policy.alike((), ("size",)), Policy())
        self.assertEqual(Policy.alike(("a", "a"), ()), Policy())
        self.refuses(BadPolicy, {"owner": "a", "kind": "some"}, Policy.alike, ("b", "a"), ("some",))
        self.refuses(BadName, {"value": "9"}, Policy.alike, ("a", "9"), ("size",))
        self.refuses(BadPolicy, {"owner": "a", "kind": "none"}, Policy.alike, ("a",), ("none",))

    def test_sets_of_pairs(self):
        source = random.Random(230)
        for _ in range(100):
            first, second = random_policy(source, "abc"), random_policy(source, "bcd")
            rows = set(first.rows), set(second.rows)
            for found, wanted in ((first | second, rows[0] | rows[1]), (first & second, rows[0] & rows[1])):
                self.assertIs(type(found), Policy)
                self.assertEqual(found.rows, tuple(sorted(wanted)))
            self.gives(rows[0] >= rows[1], first.covers, second)
            self.assertTrue((first | second).covers(first) and first.covers(first & second))
            self.assertEqual((set(first.rows), set(second.rows)), rows)

    def test_covers(self):
        self.gives(True, Policy(a=("same", "size")).covers, Policy(a=("size",)))
        self.gives(False, Policy(a=("size",)).covers, Policy(a=("same", "size")))
        self.gives(False, Policy(a=("size",)).covers, Policy(b=("size",)))
        self.gives(True, Policy().covers, Policy())

    def test_with_kind(self):
        policy = Policy(a=("same",))
        self.assertEqual(policy.with_kind("a", "some"), Policy(a=("same", "some")))
        self.assertEqual(policy.with_kind("b", "whole"), Policy(a=("same",), b=("whole",)))
        self.assertEqual(policy.with_kind("a", "same"), policy)
        self.refuses(BadPolicy, {"owner": "b", "kind": "some"}, policy.with_kind, "b", "some")
        self.refuses(BadPolicy, {"owner": "a", "kind": "none"}, policy.with_kind, "a", "none")
        self.refuses(BadName, {"value": "B"}, policy.with_kind, "B", "same")
        self.assertEqual(policy, Policy(a=("same",)))

    def test_without(self):
        policy = Policy(a=("same", "some"), b=("same",))
        self.assertEqual(policy.without("a", "some"), Policy(a=("same",), b=("same",)))
        self.assertEqual(policy.without("b", "same"), Policy(a=("same", "some")))
        for owner, kind in (("a", "size"), ("c", "same"), ("B", "same"), ("a", "none")):
            self.assertEqual(policy.without(owner, kind), policy)
        self.refuses(BadPolicy, {"owner": "a", "kind": "some"}, policy.without, "a", "same")
        self.assertEqual(policy.without("a", "some").without("a", "same"), Policy(b=("same",)))
        self.assertEqual(policy, Policy(a=("same", "some"), b=("same",)))

    def test_all_sets_of_kinds(self):
        for many in range(6):
            for some in itertools.combinations(KINDS, many):
                if "some" in some and "same" not in some:
                    self.refuses(BadPolicy, {"owner": "a", "kind": "some"}, Policy, a=some)
                else:
                    self.assertEqual(Policy(a=some).kinds("a"), some)
