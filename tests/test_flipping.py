import itertools
import random

from helper import LookerCase, all_valuations, atoms_of, random_clauses
from onelooker.errors import NotEasy
from onelooker.flipping import horn_bar, horn_flips, horn_valuation, is_horn, is_horn_bar, positive
from onelooker.literals import negated, same, word

P, Q, R, S = [word("o", text) for text in "pqrs"]
NOT_P, NOT_Q, NOT_R, NOT_S = [negated(literal) for literal in (P, Q, R, S)]
PA, QA, RA, SA = [literal[0] for literal in (P, Q, R, S)]
TWO_WAYS = [(P, Q), (NOT_P, NOT_Q), (P, NOT_Q), (NOT_P, Q)]


def samples(seed, many, width=3):
    """Clauses and fixed atoms, always the same for the same seed."""
    source = random.Random(seed)
    for _ in range(many):
        clauses = random_clauses(source, 14, 4, width)
        yield clauses, [("o", "word", f"w{source.randrange(6)}") for _ in range(source.randint(0, 2))]


def all_flips(clauses, fixed):
    """All flips of point 54, the least one first, found by trying."""
    atoms = [atom for atom in atoms_of(clauses) if atom not in fixed]
    found = []
    for signs in itertools.product((False, True), repeat=len(atoms)):
        flips = [atom for atom, sign in zip(atoms, signs) if sign]
        if all(sum((atom in flips) != sign for atom, sign in literals) <= 1 for literals in clauses):
            found.append(tuple(flips))
    return found


def is_forced(clauses, fixed, literal, following):
    """True if there is a forced step by the words of point 55."""
    if literal == (literal[0], False) and following == (literal[0], True) and literal[0] in fixed:
        return True
    other = negated(following)
    return literal != other and any(literal in literals and other in literals for literals in clauses)


class HornTest(LookerCase):

    def test_positive(self):
        for flipped in ([], (), [QA], (QA, RA)):
            self.gives(True, positive, P, flipped)
            self.gives(False, positive, NOT_P, flipped)
        for flipped in ([PA], (QA, PA)):
            self.gives(False, positive, P, flipped)
            self.gives(True, positive, NOT_P, flipped)

    def test_is_horn(self):
        for clauses in [[], (), [()], [(P,)], [(NOT_P, NOT_Q)], ((NOT_P, NOT_Q, R), (S,)), [(NOT_P, P)]]:
            self.gives(True, is_horn, clauses, ())
        for clauses in [[(P, Q)], [(NOT_P,), (P, Q, NOT_R)], [(NOT_P, P, Q)]]:
            self.gives(False, is_horn, clauses, [])

    def test_is_horn_with_flips(self):
        self.gives(True, is_horn, [(P, Q)], [PA])
        self.gives(True, is_horn, [(P, Q)], (PA, QA))
        self.gives(False, is_horn, [(P, Q), (NOT_P, NOT_R)], [PA, RA])
        self.gives(True, is_horn, [(NOT_P, P)], [PA])
        self.gives(True, is_horn, [(P, Q, R)], (PA, RA))
        self.gives(True, is_horn, [(P,)], (SA,))


class FlipsTest(LookerCase):

    def test_no_atoms_at_all(self):
        for clauses in [[], (), [()], [(), ()]]:
            for fixed in [[], (), [PA]]:
                self.gives((), horn_flips, clauses, fixed)
                self.gives(None, horn_bar, clauses, fixed)

    def test_clauses_without_flips(self):
        self.gives((), horn_flips, [(P,), (NOT_P, Q)], [])
        self.gives((), horn_flips, [(NOT_P, P)], ())
        self.gives(None, horn_flips, TWO_WAYS, [])

    def test_the_least_flips(self):
        self.gives((QA,), horn_flips, [(P, Q)], [])
        self.gives((QA, RA), horn_flips, ((P, Q, R),), ())
        self.gives((QA, RA), horn_flips, [(P, Q), (P, R), (NOT_Q, NOT_P)], [])
        self.gives((PA,), horn_flips, [(P, Q)], [QA])
        self.gives((PA, RA), horn_flips, [(P, Q, R)], [QA])
        # Flips without the first atom are less, even if they contain more atoms.
        self.gives((QA, RA, SA), horn_flips, [(P, Q), (P, R), (P, S), (NOT_P, NOT_Q), (NOT_P, NOT_R)], [])
        self.gives((QA,), horn_flips, [(P, Q), (NOT_Q, NOT_P)], [])

    def test_fixed_atoms(self):
        self.gives(None, horn_flips, [(P, Q)], [PA, QA])
        self.gives(None, horn_flips, [(P, Q), (NOT_P, R), (Q, NOT_S)], (QA, PA, PA))
        self.gives((), horn_flips, [(P,)], [PA])
        self.gives((RA,), horn_flips, [(P, R), (NOT_P, NOT_Q)], [PA, QA])

    def test_fixed_atoms_that_are_in_no_clause(self):
        self.gives((QA,), horn_flips, [(P, Q)], [SA, RA])
        self.gives(None, horn_bar, [(P, Q)], [SA])
        self.gives(None, horn_flips, TWO_WAYS, (SA,))

    def test_a_clause_with_a_literal_and_its_negation(self):
        self.gives((QA,), horn_flips, [(NOT_P, P, Q)], [])
        self.gives(None, horn_flips, [(NOT_P, P, Q)], [QA])
        self.gives(None, horn_flips, [(NOT_P, P, NOT_Q, Q)], [])

    def test_samples_by_the_words_of_the_document(self):
        ends = {True: 0, False: 0}
        for width in (2, 3, 4):
            for clauses, fixed in samples(width, 150, width):
                wanted = (all_flips(clauses, fixed) + [None])[0]
                self.gives(wanted, horn_flips, clauses, fixed)
                self.gives(wanted, horn_flips, tuple(clauses), tuple(fixed))
                ends[wanted is None] += 1
        self.assertTrue(ends[True] > 50 and ends[False] > 50)

    def test_many_clauses(self):
        words = [word("o", f"w{number:03}") for number in range(301)]
        clauses = [(words[at], words[at + 1]) for at in range(300)]
        self.gives(tuple(literal[0] for literal in words[1::2]), horn_flips, clauses, [])
        self.gives(None, horn_flips, [*clauses, (words[0], words[300]), (negated(words[0]), words[1])], [words[1][0]])


class BarTest(LookerCase):

    def check_bar(self, clauses, fixed):
        """There is a bar, it is one by the words of the document, and it is short enough."""
        bar = self.gives(horn_bar(clauses, fixed), horn_bar, clauses, fixed)
        self.assertIs(type(bar), tuple)
        self.assertTrue(3 <= len(bar) <= 4 * len(atoms_of(clauses)))
        self.assertEqual(bar[0], bar[-1])
        self.assertIn(negated(bar[0]), bar)
        for literal, following in zip(bar, bar[1:]):
            self.assertTrue(is_forced(clauses, fixed, literal, following))
        self.gives(True, is_horn_bar, clauses, fixed, bar)
        return bar

    def test_bars(self):
        self.check_bar(TWO_WAYS, [])
        self.check_bar([(P, Q)], [PA, QA])
        self.check_bar([(NOT_P, P, NOT_Q, Q)], ())
        self.check_bar([(P, Q, R), (NOT_P, NOT_Q, NOT_R)], [])
        self.check_bar([(NOT_P, P, Q)], [QA])

    def test_a_bar_exists_exactly_without_flips(self):
        for width in (2, 3, 4):
            for clauses, fixed in samples(30 + width, 100, width):
                if all_flips(clauses, fixed):
                    self.gives(None, horn_bar, clauses, fixed)
                else:
                    self.check_bar(clauses, fixed)

    def test_a_long_bar(self):
        words = [word("o", f"w{number:03}") for number in range(100)]
        # If an atom is flipped, so is the next one; of the first and the last one, exactly one is flipped.
        clauses = [(words[at + 1], negated(words[at])) for at in range(99)]
        clauses += [(negated(words[0]), negated(words[99])), (words[0], words[99])]
        self.gives((words[99][0],), horn_flips, clauses, [words[0][0]])
        self.assertGreater(len(self.check_bar(clauses, [words[99][0]])), 100)
        back = [(words[at], negated(words[at + 1])) for at in range(99)]
        self.assertGreater(len(self.check_bar(clauses + back, [])), 200)

    def test_is_horn_bar(self):
        # Literals of TWO_WAYS: whichever of p and not p is positive denies both q and not q.
        for bar in [(P, NOT_Q, NOT_P, Q, P), (P, Q, NOT_P, NOT_Q, P), (P, Q, NOT_P, Q, P), (Q, P, NOT_Q, NOT_P, Q),
                    (P, Q, NOT_P, Q, P, Q, P), (P, NOT_Q, P, NOT_Q, NOT_P, Q, P)]:
            right = all(is_forced(TWO_WAYS, [], *pair) for pair in zip(bar, bar[1:]))
            self.gives(right, is_horn_bar, TWO_WAYS, [], bar)
        self.gives(True, is_horn_bar, TWO_WAYS, (), (P, NOT_Q, NOT_P, Q, P))
        self.gives(True, is_horn_bar, [(P, Q)], [PA, QA], (P, NOT_Q, Q, NOT_P, P))
        self.gives(False, is_horn_bar, [(P, Q)], [PA], (P, NOT_Q, Q, NOT_P, P))

    def test_what_is_no_bar(self):
        right = (P, NOT_Q, NOT_P, Q, P)
        for bar in [(), (P,), (P, P), (P, NOT_P), (P, NOT_P, P), right[:-1], right[1:], (P, NOT_Q, P), (*right, NOT_P),
                    (P, NOT_Q, NOT_P, Q, R), (P, R, NOT_P, Q, P), (same("a", "b"),), (P, NOT_Q, NOT_R, NOT_P, Q, P)]:
            self.gives(False, is_horn_bar, TWO_WAYS, [], bar)
        self.gives(False, is_horn_bar, [], [], ())
        self.gives(False, is_horn_bar, [], [PA], (NOT_P, P, NOT_P))
        self.gives(False, is_horn_bar, [(P, Q)], [], right)

    def test_a_step_from_a_literal_to_itself(self):
        # A clause with a literal and its negation has forced steps from each of both to itself alone.
        self.gives(False, is_horn_bar, [(NOT_P, P)], [], (P, NOT_P, P))
        self.gives(False, is_horn_bar, [(NOT_P, P)], [], (P, P))
        clauses = [(NOT_P, P, NOT_Q, Q)]
        self.gives(True, is_horn_bar, clauses, [], (P, P, NOT_Q, NOT_P, Q, Q, P))

    def test_bars_of_any_length(self):
        right = (P, NOT_Q, NOT_P, Q)
        self.gives(True, is_horn_bar, TWO_WAYS, [], right * 500 + (P,))
        self.gives(False, is_horn_bar, TWO_WAYS, [], right * 500 + (R,))
        self.gives(False, is_horn_bar, TWO_WAYS, [], right * 250 + (R,) + right * 250 + (P,))

    def test_all_short_tuples(self):
        ends = {True: 0, False: 0}
        for clauses, fixed in [(TWO_WAYS, []), ([(P, Q)], [PA, QA]), ([(P, Q)], [PA]), ([(NOT_P, P, NOT_Q, Q)], ()),
                               ([(NOT_P, P, Q)], [QA]), ([(P, Q), (NOT_P, Q)], [QA, SA])]:
            for many in range(7):
                for bar in itertools.product((P, NOT_P, Q, NOT_Q), repeat=many):
                    right = many > 0 and bar[0] == bar[-1] and negated(bar[0]) in bar
                    right = right and all(is_forced(clauses, fixed, *pair) for pair in zip(bar, bar[1:]))
                    self.assertIs(is_horn_bar(clauses, fixed, bar), right)
                    ends[right] += 1
        self.assertTrue(ends[True] > 50 and ends[False] > 1000)


class ValuationTest(LookerCase):

    def test_no_clauses(self):
        self.gives((), horn_valuation, [], [])
        self.gives((), horn_valuation, (), (PA,))

    def test_the_empty_clause(self):
        self.gives(None, horn_valuation, [()], [])
        self.gives(None, horn_valuation, [(P,), ()], ())

    def test_held_literals_and_the_negative_ones(self):
        self.gives((P, Q, NOT_R), horn_valuation, [(NOT_P, Q), (P,), (NOT_Q, NOT_R)], [])
        self.gives((NOT_P, NOT_Q), horn_valuation, ((NOT_P, Q),), ())
        self.gives((NOT_P,), horn_valuation, [(NOT_P, P)], [])
        self.gives(None, horn_valuation, [(P,), (NOT_P,)], [])
        self.gives(None, horn_valuation, [(P,), (NOT_P, Q), (NOT_P, NOT_Q)], [])

    def test_with_flips(self):
        self.gives((P, NOT_Q), horn_valuation, [(P, Q)], [PA])
        self.gives((NOT_P, Q), horn_valuation, [(P, Q)], (QA,))
        self.gives((P, Q), horn_valuation, [(P, Q)], (QA, PA))
        self.gives((P,), horn_valuation, [(NOT_P, P)], [PA])
        self.gives((NOT_P, NOT_Q), horn_valuation, [(NOT_P,), (P, NOT_Q)], [PA, QA])

    def test_clauses_that_are_not_horn(self):
        self.refuses(NotEasy, {}, horn_valuation, [(P, Q)], [])
        self.refuses(NotEasy, {}, horn_valuation, [(), (P, Q)], ())
        self.refuses(NotEasy, {}, horn_valuation, [(NOT_P, NOT_Q)], [PA, QA])
        self.refuses(NotEasy, {}, horn_valuation, [(P,), (NOT_P,), (Q, R)], [])

    def test_samples(self):
        ends = {True: 0, False: 0}
        for width in (1, 2, 3):
            for clauses, fixed in samples(60 + width, 150, width):
                for flips in all_flips(clauses, fixed)[:3]:
                    every = all_valuations(clauses)
                    found = horn_valuation(clauses, flips)
                    self.gives(found, horn_valuation, tuple(clauses), list(flips))
                    ends[found is None] += 1
                    self.assertEqual(found is None, every == [])
                    if found is not None:
                        self.assertIn(found, every)
                        for literal in found:
                            if (literal[0] in flips) != literal[1]:
                                self.assertTrue(all(literal in other for other in every))
        self.assertTrue(ends[True] > 20 and ends[False] > 100)
