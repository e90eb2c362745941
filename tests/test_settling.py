import random
import types

from helper import LookerCase
from onelooker.cells import Cells
from onelooker.certificates import Certificate
from onelooker.checking import check, refutes
from onelooker.errors import Stands
from onelooker.families import unit_sets
from onelooker.judging import is_complete
from onelooker.literals import below, equal, negated, of_kind, owner_of, same, size_at_most, turn
from onelooker.policies import Policy
from onelooker.problems import Problem
from onelooker.rounds import Rounds
from onelooker.settling import Settled, branch_ends, core, settle, widest_points
from onelooker.trimming import trimmed
from slow import random_literals, shared_of
from slowrounds import KINDS, random_policy, random_unit, slow_known, slow_points, where_all_hold

NAMES, EVERY = ("a", "b"), ("a", "b", "c")
AB, SIZE_1, SIZE_2 = same("a", "b"), size_at_most(1), size_at_most(2)
BELOW = below("o", "a", "b")
MIXED = {"k": ("kinds", (("k", 2),)), "o": ("below",)}
PAIRS = (same("a", "b"), same("a", "c"), same("b", "c"))


def slow_ends(names, theories, policy, literals):
    """The rows of the ends of a unit problem, by the words of point 145."""
    def search(rounds):
        rounds.run()
        if rounds.refuted:
            return []
        literals = rounds.demand_now()
        if not literals:
            return [rounds.shared.rows]
        return [end for literal in literals for end in search(rounds.branch(literal))]
    return search(Rounds(names, theories, policy, literals))


class EndsTest(LookerCase):

    def check(self, names, theories, policy, literals):
        """The ends are those of point 145, and what point 146 says of them and the points holds."""
        unit = (names, theories, policy, literals)
        ends = list(branch_ends(*unit))
        self.assertEqual([end.rows for end in ends], slow_ends(*unit))
        self.assertTrue(all(type(end) is Cells and end.width == len(names) for end in ends))
        points = slow_points(*unit)
        self.assertLessEqual({end.rows for end in ends}, set(points))
        for point in points:
            self.assertTrue(any(set(point) <= set(end.rows) for end in ends))
        widest = [rows for rows in points if not any(set(rows) < set(other) for other in points)]
        found = widest_points(*unit)
        self.assertEqual([type(point) for point in found], [Cells] * len(found))
        self.assertEqual([point.rows for point in found], sorted(widest))
        return [end.rows for end in ends]

    def test_samples(self):
        source = random.Random(300)
        seen = [0, 0, 0]
        for _ in range(300):
            seen[min(2, len(self.check(*random_unit(source))))] += 1
        self.assertTrue(min(seen) > 8, seen)

    def test_three_names_and_branches(self):
        source = random.Random(301)
        seen = 0
        for _ in range(100):
            names, theories, _, literals = random_unit(source, many=1)
            policy = random_policy(source, theories, 0.7)
            seen += len(self.check(names, theories, policy, literals)) > 2
        self.assertTrue(seen > 2, seen)

    def test_refuted_at_once(self):
        self.assertEqual(self.check(NAMES, {"o": ("below",)}, Policy(), [BELOW, below("o", "b", "a")]), [])
        self.assertEqual(self.check((), {}, Policy(), [SIZE_1, negated(SIZE_1)]), [])
        self.assertEqual(self.check(NAMES, {"o": ("below",)}, Policy(), [BELOW, AB]), [])

    def test_the_first_rounds_are_the_end(self):
        self.assertEqual(self.check((), {}, Policy(), []), [Cells.every(0).rows])
        self.assertEqual(self.check(NAMES, {"o": ("below",)}, Policy(o=("other",)), [BELOW, SIZE_2]), [((2, (0, 1)),)])

    def test_branches(self):
        policy = Policy(k=("same", "some", "size"))
        self.assertEqual(self.check(EVERY, MIXED, policy, [negated(PAIRS[0])]),
                         [((2, (0, 1, 0)),), ((2, (0, 1, 1)),)])
        self.assertEqual(self.check(NAMES, {"o": ("below",)}, Policy(o=("whole",)), []),
                         [((1, (0, 0)),), ((2, (0, 0)),), ((3, (0, 0)),), ((2, (0, 1)),), ((3, (0, 1)),)])

    def test_a_set_may_occur_several_times(self):
        policy = Policy(k=("same", "some", "size"))
        ends = self.check(EVERY, MIXED, policy, [])
        self.assertEqual(ends, [((2, (0, 0, 0)), (2, (0, 0, 1))), ((2, (0, 0, 0)), (2, (0, 1, 0))),
                                ((2, (0, 0, 0)), (2, (0, 1, 1)))])
        twice = Policy(k=("same", "some", "size"), o=("whole",))
        ends = self.check(EVERY, MIXED, twice, [])
        self.assertEqual(ends.count(((2, (0, 0, 0)),)), 3)
        self.assertEqual(len(widest_points(EVERY, MIXED, twice, [])), 4)

    def test_an_end_within_another_end(self):
        cells = [(2, (0, 0, 0)), (2, (0, 0, 1)), (2, (0, 1, 0))]
        theories = {"r": ("rows", tuple((cell, ()) for cell in cells))}
        unit = (EVERY, theories, Policy(r=("same", "some")), [])
        ends = self.check(*unit)
        low, high, within = [where_all_hold(EVERY, some) for some in (PAIRS[:1], PAIRS[1:2], PAIRS)]
        self.assertEqual(ends, [tuple(sorted(cells)) for cells in (low, high, within)])
        self.assertTrue(within < low and within < high)
        self.assertEqual([point.rows for point in widest_points(*unit)], sorted(ends[:2]))

    def test_a_path_that_ends_without_a_result(self):
        policy = Policy(k=("same", "some", "size"), o=("other",))
        low = [below("o", "a", "b"), below("o", "b", "c")]
        self.assertEqual(self.check(EVERY, MIXED, policy, low), [])
        self.assertEqual(self.check(EVERY, MIXED, policy, low[:1]), [((2, (0, 1, 0)),), ((2, (0, 1, 1)),)])

    def test_ends_are_generated(self):
        found = branch_ends(NAMES, {"o": ("below",)}, Policy(o=("whole",)), [])
        self.assertIsInstance(found, types.GeneratorType)
        self.assertEqual(next(found).rows, ((1, (0, 0)),))
        with self.assertRaises(AttributeError):
            next(branch_ends(NAMES, {"o": ("below",)}, None, []))

    def test_points_are_stuck_points_alone(self):
        """A sample where some unit set is no point although it lies within an end."""
        points = slow_points(NAMES, {"o": ("below",)}, Policy(o=("other",)), [BELOW])
        self.assertEqual(points, [rows for rows in [unit.rows for unit in unit_sets(NAMES)]
                                  if {marks for _, marks in rows} == {(0, 1)}])


class SettleTest(LookerCase):

    def check(self, names, theories, policy, literals):
        """What settle finds is right by points 146, 147 and 149; returns whether the unit problem stands."""
        found = settle(names, theories, policy, literals)
        self.assertIs(type(found), Settled)
        ends = slow_ends(names, theories, policy, literals)
        self.assertIs(found.stands, ends != [])
        if found.stands:
            self.assertEqual((type(found.point), found.point.rows), (Cells, ends[0]))
            self.assertEqual((found.clause, found.certificate), (None, None))
            return True
        self.assertIsNone(found.point)
        self.check_certificate(found, names, theories, literals)
        return False

    def check_certificate(self, found, names, theories, literals):
        """The certificate of a unit problem that does not stand, by point 149."""
        self.assertEqual((type(found.certificate), type(found.clause)), (Certificate, tuple))
        self.assertEqual([row for row in found.certificate if row[0] == "given"], [])
        self.assertEqual(check(Problem(names, theories, {}), found.certificate), found.clause)
        self.assertEqual(trimmed(found.certificate), found.certificate)
        self.assertLessEqual(len(found.certificate), 1000)
        self.assertLessEqual({negated(literal) for literal in found.clause}, set(literals))

    def test_samples(self):
        source = random.Random(302)
        seen = {True: 0, False: 0}
        for _ in range(300):
            seen[self.check(*random_unit(source, many=3))] += 1
        self.assertTrue(min(seen.values()) > 80, seen)

    def test_each_theory_is_needed(self):
        """At each cell another theory fails: certificates with splits over all shared atoms."""
        source = random.Random(303)
        longest = 0
        for _ in range(40):
            cells = Cells.every(3).rows
            parts = [source.choice("opq") for _ in cells]
            theories = {owner: ("rows", tuple((cell, ()) for cell, part in zip(cells, parts) if part != owner))
                        for owner in "opq"}
            if all(theories[owner][1] for owner in theories):
                self.assertFalse(self.check(EVERY, theories, Policy.alike("opq", ("whole",)), []))
                found = settle(EVERY, theories, Policy.alike("opq", ("whole",)), [])
                self.assertEqual(found.clause, ())
                longest = max(longest, len(found.certificate))
        self.assertTrue(20 < longest < 100, longest)

    def test_the_certificate_is_accepted_for_every_problem_with_these_names_and_theories(self):
        found = settle(NAMES, {"o": ("below",)}, Policy(), [BELOW, below("o", "b", "a")])
        self.assertEqual(found.clause, (negated(BELOW), negated(below("o", "b", "a"))))
        problem = Problem.of(NAMES, (BELOW,), (below("o", "b", "a"), AB), o=("below",))
        self.assertEqual(check(problem, found.certificate), found.clause)

    def test_a_literal_twice_and_with_its_negation(self):
        found = settle(NAMES, {"o": ("below",)}, Policy(), [BELOW, BELOW, negated(BELOW)])
        self.assertFalse(found.stands)
        self.assertEqual(found.clause, tuple(sorted([BELOW, negated(BELOW)])))
        self.assertTrue(settle(NAMES, {"o": ("below",)}, Policy(), [BELOW, BELOW]).stands)
        self.assertFalse(self.check((), {}, Policy(), [SIZE_1, negated(SIZE_2), SIZE_1]))
        self.assertFalse(self.check((), {}, Policy(), [SIZE_1, negated(SIZE_1)]))

    def test_no_literals(self):
        self.assertTrue(self.check((), {}, Policy(), []))
        theories = {"k": ("kinds", (("k", 1),)), "m": ("kinds", (("k", 2),))}
        self.assertTrue(self.check((), theories, Policy(), []))
        self.assertFalse(self.check((), theories, Policy(k=("size",)), []))
        found = settle((), theories, Policy(k=("size",)), [])
        self.assertEqual(found.clause, ())
        self.assertTrue(refutes(Problem((), theories, {}), found.certificate))

    def test_a_cell_in_all_known_sets(self):
        """Point 147: then it stands under every policy, and under a complete one only then."""
        source = random.Random(304)
        seen = {True: 0, False: 0}
        for _ in range(120):
            names, theories, policy, literals = random_unit(source)
            known = slow_known(names, theories, literals)
            common = where_all_hold(names, [each for each in literals if owner_of(each) == ""])
            for owner in theories:
                common = common & known[owner]
            stands = settle(names, theories, policy, literals).stands
            self.assertTrue(stands or not common)
            if is_complete(policy, names, theories):
                self.assertEqual(stands, bool(common))
            seen[stands] += 1
            if not stands:
                more = source.sample(shared_of(names), 1) + [
                    each for owner in theories for each in random_literals(source, owner, theories[owner], names, 1)]
                self.assertFalse(settle(names, theories, policy, literals + more).stands)
                wider = policy | random_policy(source, theories)
                self.assertFalse(settle(names, theories, wider, literals).stands)
        self.assertTrue(min(seen.values()) > 20, seen)

    def test_terms(self):
        told = [equal("t", ("f", ("a",)), ("a",)), equal("t", ("f", ("a",)), ("b",))]
        theories = {"t": ("terms",), "u": ("ring", 2)}
        literals = told + [turn("u", "a", "b", 1)]
        self.assertTrue(self.check(NAMES, theories, Policy(), literals))
        self.assertFalse(self.check(NAMES, theories, Policy(t=("same",)), literals))
        found = settle(NAMES, theories, Policy(u=("other",)), literals)
        self.assertEqual(found.clause, tuple(sorted(negated(each) for each in literals)))


class CoreTest(LookerCase):

    def slow_core(self, names, theories, policy, literals):
        """The core by the words of point 150."""
        kept = sorted(set(literals))
        for literal in sorted(set(literals)):
            others = [other for other in kept if other != literal]
            if not slow_points(names, theories, policy, others):
                kept = others
        return tuple(kept)

    def test_samples(self):
        source = random.Random(305)
        seen = {True: 0, False: 0}
        for _ in range(250):
            unit = random_unit(source, many=3)
            if slow_points(*unit):
                self.refuses(Stands, {}, core, *unit)
                seen[True] += 1
            else:
                self.gives(self.slow_core(*unit), core, *unit)
                seen[False] += 1
        self.assertTrue(min(seen.values()) > 60, seen)

    def test_examples(self):
        theories = {"o": ("below",)}
        reverse = below("o", "b", "a")
        self.gives((BELOW, reverse), core, NAMES, theories, Policy(), [reverse, SIZE_2, BELOW, reverse])
        self.gives((AB, BELOW), core, NAMES, theories, Policy(), [BELOW, AB, negated(SIZE_1)])
        self.gives((negated(BELOW), BELOW), core, NAMES, theories, Policy(), [BELOW, negated(BELOW), SIZE_2])

    def test_the_policy_counts(self):
        theories = {"o": ("below",), "k": ("kinds", (("k", 0), ("l", 1)))}
        literals = [BELOW, of_kind("k", "a", "l"), of_kind("k", "b", "l"), negated(SIZE_2)]
        self.refuses(Stands, {}, core, NAMES, theories, Policy(), literals)
        self.gives(tuple(sorted(literals[:3])), core, NAMES, theories, Policy(k=("same",)), literals)
        self.gives(tuple(sorted(literals[:3])), core, NAMES, theories, Policy(o=KINDS), literals)

    def test_an_empty_core(self):
        theories = {"k": ("kinds", (("k", 1),)), "m": ("kinds", (("k", 2),))}
        self.gives((), core, NAMES, theories, Policy(m=("size",)), [AB, of_kind("k", "a", "k")])
        self.refuses(Stands, {}, core, NAMES, theories, Policy(), [])
        self.refuses(Stands, {}, core, (), {}, Policy(), [])

    def test_without_one_of_its_literals_it_stands(self):
        source = random.Random(306)
        for _ in range(60):
            names, theories, policy, literals = random_unit(source, many=4)
            if not settle(names, theories, policy, literals).stands:
                found = core(names, theories, policy, literals)
                self.assertFalse(settle(names, theories, policy, found).stands)
                for literal in found:
                    others = [other for other in found if other != literal]
                    self.assertTrue(settle(names, theories, policy, others).stands)
                clash = settle(names, theories, policy, found).clause
                self.assertLessEqual({negated(each) for each in clash}, set(found))
