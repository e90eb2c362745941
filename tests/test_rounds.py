import random
import types

from helper import LookerCase
from onelooker.cells import Cells
from onelooker.deciders import clashes, least_clash
from onelooker.errors import BadLiteral, NoOwner, NotTellable
from onelooker.literals import below, equal, negated, of_kind, owner_of, same, size_at_most, turn
from onelooker.policies import Policy
from onelooker.rounds import Rounds
from onelooker.telling import demand, told_literals
from slow import all_cells, shared_of, shared_truth, slow_fits
from slowrounds import KINDS, random_unit, where_all_hold

NAMES = ("a", "b")
AB, SIZE_1, SIZE_2 = same("a", "b"), size_at_most(1), size_at_most(2)
BELOW = below("o", "a", "b")
THEORIES = {"o": ("below",), "k": ("kinds", (("k", 1), ("l", 1)))}
TOLD = Policy(o=("other",), k=("size",))


def state(rounds):
    """All that can be seen of rounds."""
    return (rounds.heard, rounds.shared.rows, rounds.told, rounds.refuted, rounds.tellable(), rounds.demand_now())


class RoundsTest(LookerCase):

    def test_the_beginning(self):
        rounds = Rounds(NAMES, THEORIES, TOLD, [SIZE_2, BELOW, negated(SIZE_1), SIZE_2])
        self.assertEqual(rounds.names, NAMES)
        self.assertEqual(rounds.heard, (negated(SIZE_1), SIZE_2))
        self.assertEqual(rounds.shared, Cells(2, [(2, (0, 0)), (2, (0, 1))]))
        self.assertEqual((rounds.told, rounds.refuted), ((), False))
        self.assertEqual(rounds.live("o"), Cells(2, [(2, (0, 1))]))
        self.assertEqual(rounds.live("k"), Cells(2, [(2, (0, 0)), (2, (0, 1))]))
        self.assertEqual(rounds.tellable(), [("o", negated(AB))])
        self.refuses(NoOwner, {"owner": "q"}, rounds.live, "q")
        self.refuses(NoOwner, {"owner": ""}, rounds.live, "")

    def test_by_the_words_of_points_139_140_and_144(self):
        source = random.Random(270)
        seen = {True: 0, False: 0}
        for _ in range(150):
            names, theories, policy, literals = random_unit(source)
            rounds = Rounds(names, theories, policy, literals)
            shared = sorted({literal for literal in literals if owner_of(literal) == ""})
            self.assertEqual(rounds.heard, tuple(shared))
            for _ in range(4):
                self.check_now(rounds, names, theories, policy, literals)
                seen[rounds.refuted] += 1
                if rounds.tellable() and source.random() < 0.7:
                    rounds.tell(*source.choice(rounds.tellable()))
                else:
                    rounds.hear(source.choice(shared_of(names)))
        self.assertTrue(min(seen.values()) > 100, seen)

    def check_now(self, rounds, names, theories, policy, literals):
        """What rounds say now is what their heard literals make of it."""
        heard = where_all_hold(names, rounds.heard)
        self.assertEqual(rounds.shared.rows, tuple(sorted(heard)))
        known = {owner: Cells(len(names), [cell for cell in all_cells(len(names)) if slow_fits(
            card, names, [each for each in literals if owner_of(each) == owner], cell)]) for owner, card in theories.items()}
        for owner in theories:
            self.assertEqual(rounds.live(owner), known[owner] & rounds.shared)
        refuted = not heard or any(not set(known[owner].rows) & heard for owner in theories)
        self.assertIs(rounds.refuted, refuted)
        tellable = [(owner, literal) for owner in sorted(theories) for literal in
                    told_literals(policy.kinds(owner), names, known[owner], rounds.shared)]
        self.assertEqual(rounds.tellable(), [] if refuted else tellable)
        demands = [] if refuted or tellable else [demand(policy.kinds(owner), names, known[owner], rounds.shared)
                                                  for owner in sorted(theories)]
        self.assertEqual(rounds.demand_now(), ([found for found in demands if found] + [()])[0])

    def test_refuted_from_the_beginning(self):
        for literals in ([AB, BELOW], [SIZE_1, negated(SIZE_1)], [SIZE_1]):
            rounds = Rounds(NAMES, THEORIES, Policy.alike(("o", "k"), KINDS), literals)
            self.assertIs(rounds.refuted, True)
            self.assertEqual((rounds.tellable(), rounds.demand_now(), list(rounds.walk())), ([], (), []))
            before = state(rounds)
            rounds.run()
            self.assertEqual(state(rounds), before)

    def test_no_theories_and_no_names(self):
        rounds = Rounds((), {}, Policy(o=KINDS), [])
        self.assertEqual((rounds.names, rounds.heard, rounds.shared, rounds.refuted), ((), (), Cells.every(0), False))
        self.assertEqual((rounds.tellable(), rounds.demand_now()), ([], ()))
        rounds = Rounds((), {}, Policy(), [SIZE_1, negated(SIZE_2)])
        self.assertEqual((rounds.shared, rounds.refuted), (Cells(0, []), True))

    def test_strangers_count_for_nothing(self):
        rounds = Rounds(NAMES, THEORIES, Policy(q=KINDS), [BELOW])
        self.assertEqual((rounds.tellable(), rounds.demand_now()), ([], ()))

    def test_later_changes_of_the_arguments(self):
        theories, literals = dict(THEORIES), [BELOW, SIZE_2]
        rounds = Rounds(NAMES, theories, TOLD, literals)
        theories.clear(), literals.clear()
        self.assertEqual(state(rounds), state(Rounds(NAMES, THEORIES, TOLD, [BELOW, SIZE_2])))
        rounds.tellable().clear()
        rounds.run()
        self.assertEqual([owner for owner, _ in rounds.told], ["k", "o"])
        self.assertEqual(rounds.branch(AB).refuted, True)


class TellingTest(LookerCase):

    def test_tell(self):
        rounds = Rounds(NAMES, THEORIES, TOLD, [BELOW])
        self.assertEqual(rounds.tellable(), [("k", negated(SIZE_1)), ("k", SIZE_2), ("o", negated(AB))])
        rounds.tell("k", SIZE_2)
        self.assertEqual((rounds.told, rounds.heard), ((("k", SIZE_2),), (SIZE_2,)))
        rounds.tell("o", negated(AB))
        self.assertEqual(rounds.heard, (SIZE_2, negated(AB)))
        self.assertEqual(rounds.shared, Cells(2, [(2, (0, 1))]))
        self.assertEqual(rounds.tellable(), [])

    def test_a_telling_that_is_refused_leaves_all_as_it_was(self):
        rounds = Rounds(NAMES, THEORIES, TOLD, [BELOW])
        for owner, literal in (("o", SIZE_2), ("k", negated(AB)), ("o", AB), ("q", SIZE_2), ("o", BELOW)):
            before = state(rounds)
            self.refuses(NotTellable, {"owner": owner, "literal": literal}, rounds.tell, owner, literal)
            self.assertEqual(state(rounds), before)
        rounds.tell("k", SIZE_2)
        self.refuses(NotTellable, {"owner": "k", "literal": SIZE_2}, rounds.tell, "k", SIZE_2)

    def test_refuted_by_telling_and_by_hearing(self):
        theories = {"k": ("kinds", (("k", 1),)), "m": ("kinds", (("k", 2),))}
        rounds = Rounds(NAMES, theories, Policy(k=("size",)), [])
        self.assertFalse(rounds.refuted)
        rounds.tell("k", SIZE_1)
        self.assertTrue(rounds.refuted)
        self.refuses(NotTellable, {"owner": "k", "literal": SIZE_2}, rounds.tell, "k", SIZE_2)
        rounds = Rounds(NAMES, theories, Policy(k=("size",)), [])
        rounds.hear(negated(SIZE_2))
        self.assertTrue(rounds.refuted)
        rounds.hear(SIZE_2)
        self.assertEqual((rounds.heard, rounds.shared), ((negated(SIZE_2), SIZE_2), Cells(2, [])))

    def test_hear(self):
        rounds = Rounds(NAMES, THEORIES, TOLD, [BELOW])
        rounds.hear(SIZE_2)
        rounds.hear(SIZE_2)
        self.assertEqual((rounds.heard, rounds.told), ((SIZE_2,), ()))
        rounds.tell("o", negated(AB))
        rounds.hear(negated(AB))
        rounds.hear(negated(SIZE_1))
        self.assertEqual(rounds.heard, (SIZE_2, negated(AB), negated(SIZE_1)))
        rounds.hear(negated(SIZE_2))
        self.assertEqual(rounds.heard[-1], negated(SIZE_2))

    def test_wrong_literals(self):
        rounds = Rounds(NAMES, THEORIES, TOLD, [BELOW])
        for call in (rounds.hear, rounds.branch):
            self.refuses(NoOwner, {"owner": "o"}, call, BELOW)
            self.refuses(BadLiteral, {"value": None}, call, None)
            self.refuses(BadLiteral, {"value": (("", "size", 3), True)}, call, (("", "size", 3), True))
            self.refuses(BadLiteral, {"value": (("", "size", True), True)}, call, (("", "size", True), True))
            self.refuses(BadLiteral, {"value": (("", "same", "a", "c"), True)}, call, same("a", "c"))
        self.assertEqual(rounds.heard, ())

    def test_run_and_walk_tell_the_least_pair(self):
        source = random.Random(271)
        many = 0
        for _ in range(400):
            unit = random_unit(source)
            by_hand, running, walking = Rounds(*unit), Rounds(*unit), Rounds(*unit)
            while by_hand.tellable():
                by_hand.tell(*by_hand.tellable()[0])
            self.assertIsNone(running.run())
            pairs = []
            for pair in walking.walk():
                pairs.append(pair)
                self.assertEqual(walking.told, tuple(pairs))
            self.assertEqual(tuple(pairs), by_hand.told)
            for rounds in (running, walking):
                self.assertEqual(state(rounds), state(by_hand))
            many += len(pairs)
        self.assertTrue(many > 80, many)

    def test_a_walk_that_is_broken_off(self):
        rounds = Rounds(NAMES, THEORIES, TOLD, [BELOW])
        walk = rounds.walk()
        self.assertIsInstance(walk, types.GeneratorType)
        self.assertEqual(rounds.told, ())
        self.assertEqual(next(walk), ("k", negated(SIZE_1)))
        walk.close()
        self.assertEqual(rounds.told, (("k", negated(SIZE_1)),))
        self.assertEqual(list(rounds.walk()), [("k", SIZE_2), ("o", negated(AB))])
        other = Rounds(NAMES, THEORIES, TOLD, [BELOW])
        next(other.walk())
        other.run()
        self.assertEqual(state(other), state(rounds))

    def test_hearing_during_a_walk(self):
        rounds = Rounds(NAMES, THEORIES, TOLD, [BELOW])
        walk = rounds.walk()
        next(walk)
        rounds.hear(SIZE_2)
        self.assertEqual(list(walk), [("o", negated(AB))])
        self.assertEqual(rounds.heard, (negated(SIZE_1), SIZE_2, negated(AB)))

    def test_the_order_does_not_matter(self):
        """Point 143: other orders of telling, and of hearing from outside, end in the same."""
        source = random.Random(272)
        seen = {True: 0, False: 0}
        for _ in range(120):
            unit = random_unit(source)
            outside = source.sample(shared_of(unit[0]), source.randint(0, 2))
            ends = []
            for _ in range(4):
                rounds, left = Rounds(*unit), list(outside)
                source.shuffle(left)
                while left or rounds.tellable():
                    if left and (not rounds.tellable() or source.random() < 0.4):
                        rounds.hear(left.pop())
                    else:
                        rounds.tell(*source.choice(rounds.tellable()))
                ends.append((rounds.refuted, None if rounds.refuted else rounds.shared.rows))
            self.assertEqual(len(set(ends)), 1, ends)
            seen[ends[0][0]] += 1
        self.assertTrue(min(seen.values()) > 15, seen)


class BranchTest(LookerCase):

    def test_demands(self):
        names = ("a", "b", "c")
        theories = {"m": ("kinds", (("k", 2),)), "o": ("below",)}
        every = (same("a", "b"), same("a", "c"), same("b", "c"))
        apart = [below("o", "a", "b")]
        rounds = Rounds(names, theories, Policy(m=("same", "some"), o=("other",)), apart)
        self.assertEqual(rounds.demand_now(), ())
        rounds.run()
        self.assertEqual(rounds.told, (("o", negated(every[0])),))
        self.assertEqual(rounds.demand_now(), every)
        rounds = Rounds(names, theories, Policy(m=("whole",), o=("whole",)), [])
        self.assertEqual(rounds.demand_now(), (every[0], negated(every[0])))
        rounds = Rounds(names, theories, Policy(m=("same", "some"), o=("whole",)), [])
        self.assertEqual(rounds.demand_now(), every)
        rounds = Rounds(names, theories, Policy(o=("whole",)), [SIZE_1])
        self.assertEqual((rounds.refuted, rounds.demand_now()), (True, ()))

    def test_a_branch_leaves_the_rounds_as_they_were(self):
        source = random.Random(273)
        for _ in range(80):
            names, theories, policy, literals = random_unit(source)
            rounds = Rounds(names, theories, policy, literals)
            rounds.run()
            before = state(rounds)
            for literal in shared_of(names):
                branch = rounds.branch(literal)
                self.assertIs(type(branch), Rounds)
                heard = rounds.heard if literal in rounds.heard else (*rounds.heard, literal)
                self.assertEqual((branch.names, branch.heard, branch.told), (names, heard, ()))
                self.check_like_new(branch, names, theories, policy, literals)
                branch.run()
                self.assertEqual(state(rounds), before)

    def check_like_new(self, branch, names, theories, policy, literals):
        """A branch is like new rounds with the same own literals that have heard the same."""
        new = Rounds(names, theories, policy, [literal for literal in literals if owner_of(literal) != ""])
        for literal in branch.heard:
            new.hear(literal)
        self.assertEqual(state(branch), state(new))
        for owner in theories:
            self.assertEqual(branch.live(owner), new.live(owner))

    def test_a_branch_within_a_branch(self):
        rounds = Rounds(NAMES, THEORIES, Policy(o=("whole",)), [])
        first = rounds.branch(AB)
        second = first.branch(negated(SIZE_1))
        third = second.branch(SIZE_2)
        self.assertEqual(third.heard, (AB, negated(SIZE_1), SIZE_2))
        self.assertEqual([each.demand_now() for each in (rounds, first, second, third)],
                         [(AB, negated(AB)), (SIZE_1, negated(SIZE_1)), (SIZE_2, negated(SIZE_2)), ()])
        self.assertEqual((rounds.heard, first.heard), ((), (AB,)))


class ReasonTest(LookerCase):

    def test_by_the_words_of_point_148(self):
        source = random.Random(274)
        many = 0
        for _ in range(400):
            names, theories, policy, literals = random_unit(source)
            rounds = Rounds(names, theories, policy, literals)
            right_after = [rounds.reason(index) for index, _ in enumerate(rounds.walk())]
            self.assertEqual([rounds.reason(index) for index in range(len(rounds.told))], right_after)
            given = len([literal for literal in rounds.heard]) - len(rounds.told)
            for index, (owner, literal) in enumerate(rounds.told):
                own = [each for each in literals if owner_of(each) == owner]
                before = rounds.heard[:given + index]
                clash = least_clash(theories[owner], names, [*own, *before, negated(literal)])
                reason = rounds.reason(index)
                self.assertEqual(reason, tuple(sorted((atom, not sign) for atom, sign in clash)))
                self.assertIn(literal, reason)
                self.assertTrue({negated(each) for each in reason if each != literal} <= {*own, *before})
                self.assertTrue(clashes(theories[owner], names, [negated(each) for each in reason]))
                many += 1
        self.assertTrue(many > 80, many)

    def test_an_example(self):
        rounds = Rounds(NAMES, THEORIES, TOLD, [BELOW])
        rounds.run()
        self.assertEqual([literal for _, literal in rounds.told], [negated(SIZE_1), SIZE_2, negated(AB)])
        self.assertEqual([rounds.reason(index) for index in range(3)],
                         [(negated(SIZE_1),), (SIZE_2,), (negated(AB), negated(BELOW))])
        self.assertEqual(rounds.reason(-1), rounds.reason(2))

    def test_reasons_stay_when_more_is_heard(self):
        rounds = Rounds(NAMES, {"u": ("ring", 2), "k": THEORIES["k"]}, Policy(u=("other",)), [turn("u", "a", "b", 1)])
        rounds.tell("u", negated(AB))
        reason = rounds.reason(0)
        rounds.hear(negated(AB))
        rounds.hear(SIZE_2)
        self.assertEqual(rounds.reason(0), reason)
        self.assertEqual(reason, (negated(AB), negated(turn("u", "a", "b", 1))))

    def test_literals_heard_before_may_be_in_it(self):
        kinds = {"k": ("kinds", (("k", 1), ("l", 0)))}
        both = [of_kind("k", "a", "k"), of_kind("k", "c", "k")]
        rounds = Rounds(("a", "b", "c"), kinds, Policy(k=("same",)), both)
        rounds.hear(same("b", "c"))
        rounds.run()
        self.assertEqual(rounds.told, (("k", AB),))
        self.assertEqual(rounds.reason(0), tuple(sorted([AB, *[negated(each) for each in (same("b", "c"), *both)]])))


class ResumedTest(LookerCase):

    def test_pairs_of_earlier_rounds(self):
        source = random.Random(275)
        for _ in range(60):
            unit = random_unit(source)
            rounds = Rounds(*unit)
            while rounds.tellable():
                rounds.tell(*source.choice(rounds.tellable()))
            again = Rounds.resumed(*unit, list(rounds.told))
            self.assertEqual(state(again), state(rounds))
            half = Rounds.resumed(*unit, rounds.told[:len(rounds.told) // 2])
            self.assertEqual(half.told, rounds.told[:len(rounds.told) // 2])
            half.run()
            self.assertEqual(half.refuted, rounds.refuted)

    def test_a_pair_that_cannot_be_told_at_its_turn(self):
        told = [("k", SIZE_2), ("o", negated(AB)), ("k", SIZE_2), ("o", SIZE_1)]
        self.refuses(NotTellable, {"owner": "k", "literal": SIZE_2}, Rounds.resumed, NAMES, THEORIES, TOLD, [BELOW], told)
        self.refuses(NotTellable, {"owner": "o", "literal": AB}, Rounds.resumed, NAMES, THEORIES, TOLD, [BELOW],
                     [("o", AB), ("k", SIZE_2)])
        self.refuses(NotTellable, {"owner": "k", "literal": SIZE_2}, Rounds.resumed, NAMES, THEORIES, TOLD, [SIZE_1],
                     [("k", SIZE_2)])
        found = Rounds.resumed(NAMES, THEORIES, TOLD, [BELOW], told[:2])
        self.assertEqual(found.told, tuple(told[:2]))

    def test_terms(self):
        told = equal("t", ("f", ("a",)), ("a",))
        more = equal("t", ("f", ("a",)), ("b",))
        rounds = Rounds.resumed(NAMES, {"t": ("terms",)}, Policy(t=("same", "size")), [told, more], [("t", AB)])
        self.assertEqual(rounds.shared.rows, ((1, (0, 0)), (2, (0, 0)), (3, (0, 0))))
        self.assertEqual(rounds.tellable(), [("t", negated(SIZE_1)), ("t", negated(SIZE_2))])
        self.assertTrue(all(shared_truth(NAMES, (3, (0, 0)), literal) for _, literal in rounds.tellable()))
