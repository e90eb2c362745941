import copy
import random

from helper import LookerCase, all_valuations, random_clauses
from onelooker.errors import BadLiteral, BadOrder, BadStep, Stands
from onelooker.literals import below, negated, same, size_at_most, word
from onelooker.propagating import Propagation, clash_rows, propagate

P, Q, R, S, T = [word("o", text) for text in "pqrst"]
NOT_P, NOT_Q, NOT_R, NOT_S = [negated(literal) for literal in (P, Q, R, S)]


def samples(seed, many, width=3):
    """Labeled clauses and start literals, always the same for the same seed."""
    source = random.Random(seed)
    for _ in range(many):
        clauses = random_clauses(source, 8, 5, width)
        labels = source.sample(range(1, 1000), len(clauses))
        start = [(("o", "word", f"w{source.randrange(5)}"), source.random() < 0.5) for _ in range(source.randint(0, 2))]
        yield dict(zip(labels, clauses)), start


def denied(literals, held):
    return all(negated(literal) in held for literal in literals)


def stepwise(clauses, start, order):
    """The steps and the clash by the words of points 46 and 47."""
    steps = []
    for literal in start:
        if literal not in [held for held, _ in steps]:
            steps.append((literal, 0))
    while True:
        held = [literal for literal, _ in steps]
        for label in order:
            left = [literal for literal in clauses[label] if negated(literal) not in held]
            if denied(clauses[label], held):
                return tuple(steps), label
            if len(left) == 1 and left[0] not in held:
                steps.append((left[0], label))
                break
        else:
            return tuple(steps), 0


class PropagateTest(LookerCase):

    def check(self, steps, clash, clauses, start=(), **more):
        """propagate gives these steps and this clash, and changes no argument."""
        before = copy.deepcopy((clauses, start, more))
        found = propagate(clauses, start, **more)
        self.assertIs(type(found), Propagation)
        self.assertEqual(repr((found.steps, found.clash)), repr((steps, clash)))
        self.assertEqual(repr(found.literals), repr(tuple([literal for literal, _ in steps])))
        self.assertEqual((clauses, start, more, list(clauses)), (*before, list(before[0])))
        return found

    def test_no_clauses(self):
        self.check((), 0, {})
        self.check(((P, 0),), 0, {}, [P])
        self.check((), 0, {}, order=())

    def test_the_empty_clause_is_denied(self):
        self.check((), 7, {7: ()})
        self.check(((P, 3),), 7, {7: (), 3: (P,)})
        self.check((), 3, {7: (P,), 3: ()})

    def test_units_are_added_by_the_first_clause(self):
        self.check(((P, 1), (Q, 2), (R, 3)), 0, {1: (P,), 2: (NOT_P, Q), 3: (NOT_Q, R)})
        self.check(((R, 3), (Q, 2), (P, 1)), 0, {1: (P, NOT_Q), 2: (Q, NOT_R), 3: (R,)})
        # After each step the least label comes first again.
        self.check(((Q, 2), (P, 1), (R, 3)), 0, {1: (NOT_Q, P), 2: (Q,), 3: (R,)})

    def test_a_clause_that_holds_adds_nothing(self):
        self.check(((P, 1),), 0, {1: (P,), 2: (P,), 3: (P, Q), 4: (NOT_Q, P)})
        self.check(((P, 0),), 0, {1: (P,)}, [P])

    def test_a_clash(self):
        self.check(((P, 1), (Q, 3)), 4, {4: (NOT_P, NOT_Q), 3: (Q,), 1: (P,)})
        self.check(((P, 1),), 2, {1: (P,), 2: (NOT_P,), 3: (Q,)})
        self.check(((NOT_P, 0),), 5, {5: (P,)}, [NOT_P])

    def test_the_first_clause_counts_whichever_it_is(self):
        self.check(((P, 0),), 1, {1: (NOT_P,), 2: (Q,)}, (P,))
        self.check(((P, 0), (Q, 1)), 2, {1: (Q,), 2: (NOT_P,)}, (P,))

    def test_start_literals(self):
        self.check(((Q, 0), (P, 0)), 0, {}, [Q, P, Q, P])
        self.check(((Q, 0), (P, 0), (R, 9)), 0, {9: (NOT_P, NOT_Q, R)}, (Q, P, Q))

    def test_two_starts_that_deny_each_other(self):
        self.check(((P, 0), (NOT_P, 0)), 0, {}, [P, NOT_P])
        self.check(((P, 0), (NOT_P, 0), (Q, 1)), 0, {1: (P, Q)}, [P, NOT_P])
        self.check(((P, 0), (NOT_P, 0)), 2, {2: (P,)}, [P, NOT_P])
        self.check(((NOT_P, 0), (P, 0)), 4, {4: (NOT_P, P)}, [NOT_P, P])
        self.check(((P, 0), (NOT_P, 0)), 0, {1: (P, Q, R)}, [P, NOT_P])

    def test_a_clause_with_a_literal_and_its_negation(self):
        self.check((), 0, {1: (NOT_P, P)})
        self.check(((P, 0),), 0, {1: (NOT_P, P)}, [P])
        self.check(((P, 2),), 0, {1: (NOT_P, P, Q), 2: (P,)})

    def test_atoms_are_only_compared(self):
        odd = (("owner", "what", 1), True)
        self.check(((odd, 1), (below("x", "a", "b"), 2)), 0, {1: (odd,), 2: (negated(odd), below("x", "a", "b"))})
        self.check(((same("a", "b"), 1), (size_at_most(1), 2)), 0, {1: (same("a", "b"),), 2: (size_at_most(1),)})

    def test_the_order(self):
        clauses = {1: (P,), 2: (NOT_P, Q), 3: (R,)}
        self.check(((R, 3), (P, 1), (Q, 2)), 0, clauses, order=(3, 2, 1))
        self.check(((P, 1), (R, 3), (Q, 2)), 0, clauses, order=[1, 3, 2])
        self.check(((P, 0), (Q, 2)), 8, {8: (NOT_P,), 2: (Q,)}, [P], order=(2, 8))
        self.check(((P, 0),), 8, {8: (NOT_P,), 2: (Q,)}, [P], order=(8, 2))

    def test_an_order_without_each_label_once(self):
        clauses = {1: (P,), 2: (Q,), 3: (NOT_P,)}
        for order in [(), (1, 2), (1, 2, 2), (1, 2, 3, 3), (1, 2, 4), (1, 2, 3, 4), (0, 1, 2, 3), (True, 2, 3),
                      (1, 2, "3"), (1, 2, None), ("1", "2", "3"), (1, 2, (3,)), (1, 2, [3]), [3, 2, True], [],
                      (1.0, 2, 3)]:
            self.refuses(BadOrder, {"value": order}, propagate, clauses, order=order)
            self.refuses(BadOrder, {"value": order}, propagate, clauses, (P, NOT_P), order=order)
        self.refuses(BadOrder, {"value": (1,)}, propagate, {}, order=(1,))

    def test_samples_by_the_words_of_the_document(self):
        clashes = 0
        for clauses, start in samples(11, 200):
            for order in [sorted(clauses), list(clauses)]:
                steps, clash = stepwise(clauses, start, order)
                self.check(steps, clash, clauses, start, order=order)
            steps, clash = stepwise(clauses, start, sorted(clauses))
            self.check(steps, clash, clauses, start)
            clashes += clash > 0
        self.assertTrue(40 < clashes < 160)

    def test_the_order_does_not_change_the_end(self):
        for clauses, start in samples(12, 100):
            first, second = propagate(clauses, start), propagate(clauses, start, order=sorted(clauses, reverse=True))
            self.assertEqual(first.clash == 0, second.clash == 0)
            if first.clash == 0:
                self.assertEqual(set(first.literals), set(second.literals))

    def test_many_clauses(self):
        words = [word("o", f"w{number}") for number in range(300)]
        clauses = {300: (words[0],)}
        clauses.update({300 - at: (negated(words[at - 1]), words[at]) for at in range(1, 300)})
        found = propagate(clauses)
        self.assertEqual((found.literals, found.clash), (tuple(words), 0))


class PropagationTest(LookerCase):

    def test_what_it_has(self):
        found = propagate({1: (P,), 2: (NOT_P, Q)}, [S])
        self.assertEqual((len(found), list(found), list(found)), (3, [S, P, Q], [S, P, Q]))
        self.assertEqual([P in found, S in found, R in found, NOT_P in found], [True, True, False, False])
        self.assertEqual(repr((found[S], found[P], found[Q])), "(0, 1, 2)")
        self.refuses(BadLiteral, {"value": R}, lambda: found[R])
        self.refuses(BadLiteral, {"value": NOT_P}, lambda: found[NOT_P])

    def test_of_nothing(self):
        found = propagate({})
        self.assertEqual((len(found), list(found), found.steps, found.literals, found.clash), (0, [], (), (), 0))

    def test_later_changes_to_the_arguments(self):
        clauses, start = {1: (P,)}, [S]
        found = propagate(clauses, start)
        clauses[1] = (Q,)
        start.append(R)
        self.assertEqual(found.steps, ((S, 0), (P, 1)))
        steps = [(S, 0), (Q, 1)]
        found = Propagation.replayed(clauses, steps)
        steps.clear()
        self.assertEqual(found.steps, ((S, 0), (Q, 1)))


class ReplayedTest(LookerCase):

    CLAUSES = {1: (P,), 2: (NOT_P, Q), 3: (NOT_Q, R, S), 4: (NOT_S, S)}

    def refuses_steps(self, index, *steps):
        for given in (list(steps), steps):
            self.refuses(BadStep, {"index": index}, Propagation.replayed, self.CLAUSES, given)

    def test_no_steps(self):
        self.assertEqual(Propagation.replayed({}, []).steps, ())
        self.assertEqual(Propagation.replayed({}, ()).clash, 0)
        self.assertEqual(Propagation.replayed({5: (), 3: (), 4: (P,)}, ()).clash, 3)

    def test_steps_of_a_propagation_are_right(self):
        for clauses, start in samples(13, 150):
            for order in [None, list(clauses)]:
                found = propagate(clauses, start, order=order)
                again = Propagation.replayed(clauses, list(found.steps))
                self.assertEqual((again.steps, again.literals), (found.steps, found.literals))
                clashes = [label for label in clauses if denied(clauses[label], found.literals)]
                self.assertEqual(again.clash, min(clashes, default=0))
                self.assertEqual(again.clash == 0, found.clash == 0)

    def test_steps_need_not_be_all(self):
        found = Propagation.replayed(self.CLAUSES, [(P, 1)])
        self.assertEqual((found.steps, found.clash), (((P, 1),), 0))
        found = Propagation.replayed(self.CLAUSES, ((NOT_R, 0), (P, 1), (Q, 2), (S, 3)))
        self.assertEqual((found.literals, found.clash, found[S]), ((NOT_R, P, Q, S), 0, 3))

    def test_the_clash_is_the_least_label(self):
        clauses = {9: (NOT_P,), 4: (NOT_P, NOT_Q), 6: (P, Q)}
        self.assertEqual(Propagation.replayed(clauses, [(P, 0), (Q, 0)]).clash, 4)
        self.assertEqual(Propagation.replayed(clauses, [(P, 0)]).clash, 9)
        self.assertEqual(Propagation.replayed(clauses, [(Q, 0)]).clash, 0)

    def test_start_literals_may_be_denied_by_earlier_ones(self):
        found = Propagation.replayed(self.CLAUSES, [(P, 0), (NOT_P, 0)])
        self.assertEqual((found.literals, found.clash), ((P, NOT_P), 1))

    def test_no_literal_comes_twice(self):
        self.refuses_steps(1, (P, 0), (P, 0))
        self.refuses_steps(1, (P, 0), (P, 1))
        self.refuses_steps(1, (P, 1), (P, 1))
        self.refuses_steps(2, (P, 0), (Q, 0), (Q, 2))

    def test_start_literals_come_first(self):
        self.refuses_steps(1, (P, 1), (S, 0))
        self.refuses_steps(2, (S, 0), (P, 1), (T, 0))
        self.refuses_steps(3, (S, 0), (P, 1), (Q, 2), (T, 0))

    def test_labels_are_those_of_clauses(self):
        for label in [5, -1, 1000, True, False, None, "1", 1.0, 0.0, (1,), [1]]:
            self.refuses_steps(0, (P, label))
            self.refuses_steps(1, (S, 0), (P, label))

    def test_the_clause_contains_the_literal(self):
        self.refuses_steps(0, (Q, 1))
        self.refuses_steps(1, (P, 1), (R, 2))
        self.refuses_steps(0, (NOT_P, 1))

    def test_all_other_literals_are_denied(self):
        self.refuses_steps(0, (Q, 2))
        self.refuses_steps(2, (P, 1), (Q, 2), (R, 3))
        self.assertEqual(len(Propagation.replayed(self.CLAUSES, [(NOT_S, 0), (Q, 0), (R, 3)])), 3)

    def test_the_literal_is_not_denied(self):
        self.refuses_steps(1, (NOT_P, 0), (P, 1))
        self.refuses_steps(2, (NOT_Q, 0), (P, 1), (Q, 2))
        self.refuses_steps(3, (NOT_R, 0), (NOT_S, 0), (Q, 0), (R, 3))

    def test_a_clause_with_a_literal_and_its_negation_adds_nothing(self):
        self.refuses_steps(0, (S, 4))
        self.refuses_steps(1, (NOT_S, 0), (S, 4))
        self.refuses_steps(1, (S, 0), (NOT_S, 4))
        self.refuses_steps(1, (S, 0), (S, 4))

    def test_the_first_step_that_is_not_right(self):
        self.refuses_steps(1, (P, 1), (R, 3), (S, 1))
        self.refuses_steps(0, (R, 3), (S, 1))

    def test_right_steps_by_the_words_of_the_document(self):
        source = random.Random(14)
        ends = {True: 0, False: 0}
        for clauses, _ in samples(15, 60, 2):
            steps = []
            for _ in range(40):
                label = source.choice([0, *clauses])
                literal = (("o", "word", f"w{source.randrange(5)}"), source.random() < 0.5)
                held = [earlier for earlier, _ in steps]
                right = literal not in held
                if label == 0:
                    right = right and all(earlier == 0 for _, earlier in steps)
                else:
                    others = [other for other in clauses[label] if other != literal]
                    right = right and literal in clauses[label] and negated(literal) not in held
                    right = right and denied(others, held)
                if right and len(steps) < 4:
                    steps.append((literal, label))
                    self.assertEqual(Propagation.replayed(clauses, steps).steps, tuple(steps))
                elif not right:
                    self.refuses(BadStep, {"index": len(steps)}, Propagation.replayed, clauses,
                                 [*steps, (literal, label)])
                ends[right] += 1
        self.assertTrue(ends[True] > 100 and ends[False] > 100)

    def test_replayed_steps_are_held_by_the_propagation(self):
        for clauses, start in samples(16, 80):
            found = propagate(clauses, start)
            if found.clash == 0:
                for many in range(len(found) + 1):
                    again = Propagation.replayed(clauses, found.steps[:many])
                    self.assertLessEqual(set(again.literals), set(found.literals))


class ClashRowsTest(LookerCase):

    def check_rows(self, clauses, propagated):
        """The rows end in a clause of negations of start literals, are few enough and change nothing."""
        before = copy.deepcopy((clauses, vars(propagated)))
        rows = clash_rows(clauses, propagated)
        self.assertEqual((clauses, vars(propagated)), before)
        self.assertIs(type(rows), tuple)
        ends = []
        for row in rows:
            if row[0] == "given":
                self.assertEqual(len(row), 2)
                ends.append(set(clauses[row[1]]))
            else:
                word_, first, second, atom = row
                self.assertEqual(word_, "resolve")
                self.assertTrue(0 <= first < len(ends) and 0 <= second < len(ends))
                self.assertIn((atom, True), ends[first])
                self.assertIn((atom, False), ends[second])
                ends.append(ends[first] - {(atom, True)} | ends[second] - {(atom, False)})
        start = {literal for literal, label in propagated.steps if label == 0}
        self.assertLessEqual({negated(literal) for literal in ends[-1]}, start)
        self.assertLessEqual(len(rows), 2 * (len(propagated) - len(start)) + 1)
        return rows

    def test_no_clash(self):
        self.refuses(Stands, {}, clash_rows, {}, propagate({}))
        self.refuses(Stands, {}, clash_rows, {1: (P,)}, propagate({1: (P,)}, [Q]))
        self.refuses(Stands, {}, clash_rows, {1: (P, Q)}, propagate({1: (P, Q)}, [P, NOT_P]))

    def test_a_clause_that_is_denied_at_once(self):
        self.assertEqual(self.check_rows({7: ()}, propagate({7: ()})), (("given", 7),))
        self.assertEqual(self.check_rows({7: (P,)}, propagate({7: (P,)}, [NOT_P])), (("given", 7),))
        torn = {7: (NOT_P, P)}
        self.assertEqual(self.check_rows(torn, propagate(torn, [P, NOT_P])), (("given", 7),))

    def test_resolving(self):
        for clauses in [{1: (P,), 2: (NOT_P,)}, {1: (P,), 2: (NOT_P, Q), 3: (NOT_P, NOT_Q)}, {1: (NOT_P,), 2: (P,)},
                        {1: (P,), 2: (Q,), 3: (NOT_P, R), 4: (NOT_Q, S), 5: (NOT_R, NOT_S)},
                        {1: (NOT_P,), 2: (P, NOT_Q), 3: (Q, R), 4: (Q, NOT_R)}]:
            self.check_rows(clauses, propagate(clauses))

    def test_steps_that_are_not_needed(self):
        clauses = {1: (S,), 2: (NOT_S, T), 3: (P,), 4: (NOT_P,)}
        self.check_rows(clauses, propagate(clauses))

    def test_start_literals_stay(self):
        clauses = {1: (NOT_P, Q), 2: (NOT_Q, NOT_R)}
        self.check_rows(clauses, propagate(clauses, [P, R]))
        self.check_rows(clauses, propagate(clauses, [R, P, NOT_P, S]))
        self.check_rows({1: (P, Q), 2: (NOT_Q,)}, propagate({1: (P, Q), 2: (NOT_Q,)}, [P, NOT_P]))

    def test_replayed_steps(self):
        clauses = {1: (P,), 2: (NOT_P, Q), 3: (NOT_P, NOT_Q), 4: (NOT_Q,)}
        self.check_rows(clauses, Propagation.replayed(clauses, [(Q, 0)]))
        self.check_rows(clauses, Propagation.replayed(clauses, [(P, 1), (Q, 2)]))
        self.check_rows(clauses, Propagation.replayed(clauses, [(P, 1), (NOT_Q, 3)]))

    def test_samples(self):
        clashes = 0
        for clauses, start in samples(17, 300):
            for order in [None, list(clauses)]:
                propagated = propagate(clauses, start, order=order)
                if propagated.clash == 0:
                    self.refuses(Stands, {}, clash_rows, clauses, propagated)
                else:
                    self.check_rows(clauses, propagated)
                    clashes += 1
                    if not start:
                        self.assertEqual(all_valuations(list(clauses.values())), [])
        self.assertGreater(clashes, 100)
