import copy
import itertools
import random

from helper import LookerCase, all_valuations, atoms_of, random_clauses
from onelooker.boolean import refutation_rows, valuation, valuations
from onelooker.errors import Stands
from onelooker.flipping import horn_flips, horn_valuation
from onelooker.literals import below, clause_of, equal, negated, of_kind, same, size_at_most, turn, word
from onelooker.picks import is_torn, least_units
from slow import clauses_of_rows

P, Q, R, S = [word("o", text) for text in "pqrs"]
NOT_P, NOT_Q, NOT_R, NOT_S = [negated(literal) for literal in (P, Q, R, S)]


def samples(seed, many, most=5):
    """Labeled clauses, always the same for the same seed, the labels in any order."""
    source = random.Random(seed)
    for _ in range(many):
        clauses = random_clauses(source, 8, most, 4)
        yield source, dict(zip(source.sample(range(1, 1000), len(clauses)), clauses))


class ValuationsTest(LookerCase):

    def check(self, wanted, clauses):
        """valuations and valuation give these, and leave the argument as it is."""
        before = copy.deepcopy(clauses)
        self.assertEqual(repr(list(valuations(clauses))), repr(wanted))
        self.gives(wanted[0] if wanted else None, valuation, clauses)
        self.assertEqual(list(clauses.items()), list(before.items()))

    def test_no_clauses(self):
        self.check([()], {})

    def test_the_empty_clause(self):
        self.check([], {1: ()})
        self.check([], {1: (P,), 2: (), 3: (Q,)})

    def test_one_literal_for_each_atom(self):
        self.check([(NOT_P, Q), (P, NOT_Q), (P, Q)], {4: (P, Q)})
        self.check([(NOT_P,)], {1: (NOT_P,)})
        self.check([], {1: (P,), 2: (NOT_P,)})
        self.check([(P, NOT_Q, NOT_R)], {9: (P, NOT_Q), 3: (NOT_R,), 5: (P,), 1: (NOT_P, NOT_Q)})

    def test_a_clause_with_a_literal_and_its_negation(self):
        self.check([(NOT_P,), (P,)], {1: (NOT_P, P)})
        self.check([(P, Q)], {2: (NOT_P, P), 1: (Q,), 3: (P, NOT_Q)})

    def test_atoms_of_all_forms_are_in_their_order(self):
        literals = clause_of([P, below("o", "a", "b"), equal("o", ("a",), ("f", ("a",))), same("a", "b"),
                              of_kind("k", "a", "m"), size_at_most(1), turn("x", "a", "b", 1)])
        found = list(valuations({1: literals}))
        self.assertEqual(len(found), 2 ** 7 - 1)
        self.assertEqual(found, sorted(found))
        for chosen in found:
            self.assertEqual([atom for atom, _ in chosen], [atom for atom, _ in literals])

    def test_ten_atoms(self):
        literals = [word("o", f"w{number}") for number in range(10)]
        self.assertEqual(len(list(valuations({1: tuple(literals)}))), 2 ** 10 - 1)
        self.check([tuple(literals)], {number: (literal,) for number, literal in enumerate(literals, start=1)})

    def test_samples(self):
        ends = {True: 0, False: 0}
        for _, clauses in samples(80, 300):
            wanted = all_valuations(list(clauses.values()))
            self.check(wanted, clauses)
            ends[wanted == []] += 1
        self.assertTrue(min(ends.values()) > 50, ends)

    def test_horn_clauses(self):
        seen = {True: 0, False: 0}
        for _, clauses in samples(81, 300):
            listed = list(clauses.values())
            flips = horn_flips(listed, ())
            if flips is not None:
                wanted = horn_valuation(listed, flips)
                found = list(valuations(clauses))
                self.assertEqual(wanted is None, found == [])
                self.assertTrue(wanted is None or wanted in found)
                seen[wanted is None] += 1
        self.assertTrue(min(seen.values()) > 20, seen)

    def test_units_are_in_the_valuations(self):
        for _, clauses in samples(82, 100, 4):
            units = least_units(list(clauses.values()))
            self.assertEqual(bool(units), valuation(clauses) is not None)
            for chosen in valuations(clauses):
                self.assertTrue(any(set(unit) <= set(chosen) for unit in units))

    def test_they_are_generated(self):
        clauses = {1: (P,)}
        found = valuations(clauses)
        self.assertIs(iter(found), found)
        clauses[2] = (Q,)
        self.assertEqual(list(found), [(P, Q)])
        found = valuations(None)
        with self.assertRaises((TypeError, AttributeError)):
            next(found)


class RowsTest(LookerCase):

    def check(self, clauses, *goal):
        """The rows end in a clause within the goal, are not too many, and each clause is in its place."""
        before = copy.deepcopy((clauses, goal))
        rows = refutation_rows(clauses, *goal)
        self.assertIs(type(rows), tuple)
        found = clauses_of_rows(clauses, rows)
        self.assertLessEqual(set(found[-1]), set(goal[0] if goal else ()))
        self.assertLessEqual(len(rows), 2 ** (len(atoms_of(clauses.values())) + 1))
        self.assertEqual((clauses, goal), before)
        return rows

    def refused(self, clauses, *goal):
        self.refuses(Stands, {}, refutation_rows, clauses, *goal)

    def test_no_clauses(self):
        self.refused({})
        self.refused({}, (P,))

    def test_the_empty_clause(self):
        self.assertEqual(self.check({7: ()}), (("given", 7),))
        self.check({1: (P,), 2: (), 3: (Q,)})
        self.check({2: ()}, (P, Q))

    def test_no_goal(self):
        self.check({1: (P,), 2: (NOT_P,)})
        self.check({9: (NOT_P, NOT_Q), 4: (P,), 5: (Q,)}, ())
        self.refused({1: (P, Q), 2: (NOT_P,)})
        self.check({1: (P, Q), 2: (NOT_P, Q), 3: (P, NOT_Q), 4: (NOT_P, NOT_Q)})

    def test_a_goal_that_is_just_enough(self):
        self.check({1: (P, Q), 2: (NOT_P, R)}, (Q, R))
        self.refused({1: (P, Q), 2: (NOT_P, R)}, (Q,))
        self.refused({1: (P, Q), 2: (NOT_P, R)}, (R,))
        self.refused({1: (P, Q), 2: (NOT_P, R)})
        self.check({1: (P, Q), 2: (NOT_P, R)}, (P, Q))
        self.check({1: (P, Q), 2: (NOT_P, R)}, (NOT_P, R))

    def test_a_goal_whose_atom_is_in_no_clause(self):
        self.check({1: (P,), 2: (NOT_P,)}, (S,))
        self.check({1: (P,)}, (P, S))
        self.refused({1: (P,)}, (S,))
        self.refused({1: (P,)}, (NOT_P, S))

    def test_an_atom_that_some_clauses_do_not_need(self):
        self.check({1: (NOT_P, R), 2: (Q,), 3: (NOT_Q,)}, (R,))
        self.check({1: (P, R), 2: (Q,), 3: (NOT_Q,)}, (R,))
        self.check({1: (NOT_P, Q), 2: (Q,), 3: (NOT_Q, R), 4: (P, R)}, (R, S))

    def test_a_clause_with_a_literal_and_its_negation(self):
        self.check({1: (NOT_P, P), 2: (P,), 3: (NOT_P,)})
        self.check({1: (NOT_P, P), 2: (NOT_P, P, Q), 3: (NOT_Q,), 4: (Q,)})
        self.refused({1: (NOT_P, P)}, (P,))

    def test_all_clauses_over_some_atoms(self):
        for many in range(1, 9):
            literals = [word("o", f"w{number}") for number in range(many)]
            clauses = {label: tuple((atom, sign) for (atom, _), sign in zip(literals, signs))
                       for label, signs in enumerate(itertools.product((False, True), repeat=many), start=1)}
            self.check(clauses)
            del clauses[1]
            self.refused(clauses)
            for literal in literals:
                self.check(clauses, (literal,))
                self.refused(clauses, (negated(literal),))

    def test_samples(self):
        ends = {True: 0, False: 0}
        for source, clauses in samples(83, 300):
            every = all_valuations(list(clauses.values()))
            goals = [goal for goal in random_clauses(source, 4, 6, 4) if not is_torn(goal)]
            for goal in [(), *goals]:
                stands = any(not set(chosen) & set(goal) for chosen in every)
                ends[stands] += 1
                if stands:
                    self.refused(clauses, goal)
                else:
                    self.check(clauses, goal)
        self.assertTrue(min(ends.values()) > 100, ends)
