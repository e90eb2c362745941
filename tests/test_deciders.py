import itertools
import random

from helper import LookerCase
from onelooker.belowfits import below_part, below_parts, below_truth
from onelooker.cards import renamed_card
from onelooker.cells import Cells
from onelooker.deciders import all_parts, cells_of, clashes, fits, least_clash, true_in
from onelooker.errors import BadCard, Stands
from onelooker.kindsfits import kinds_parts
from onelooker.literals import (below, equal, negated, of_kind, renamed_literal, same, shared_literals, size_at_most,
                                turn, word)
from onelooker.names import cells_over, renamed_marks
from onelooker.ringfits import ring_parts
from onelooker.rowsfits import rows_parts
from onelooker.termsfits import terms_part
from slow import random_card, random_literals, shared_truth, slow_fits, theory_models

NAMES = ("a", "b", "c")
ROWS = ("rows", (((1, (0, 0, 0)), ("p",)), ((2, (0, 1, 1)), ()), ((2, (0, 1, 1)), ("p",)), ((3, (0, 1, 2)), ("q",))))
KINDS = ("kinds", (("k", 0), ("l", 1)))
BELOW, RING, TERMS = ("below",), ("ring", 3), ("terms",)
CARDS = [ROWS, KINDS, BELOW, RING, TERMS]
TABLES = CARDS[:4]
SAME, SIZE_1, SIZE_2 = same("a", "b"), size_at_most(1), size_at_most(2)
AB, BC, AC = below("o", "a", "b"), below("o", "b", "c"), below("o", "a", "c")
FA, FB = ("f", ("a",)), ("f", ("b",))


def samples(seed, many, forms=("rows", "kinds", "below", "ring", "terms", "none")):
    """Cards, names and literals of one owner and shared ones, always the same for a seed."""
    source = random.Random(seed)
    for _ in range(many):
        names = NAMES[:source.randint(0, 3)]
        card = random_card(source, len(names), (source.choice(forms),))
        card = None if card == ("none",) else card
        literals = source.sample(shared_literals(names), source.randint(0, 2))
        if card is not None:
            literals += random_literals(source, "o", card, names, source.randint(0, 4))
        source.shuffle(literals)
        yield source, card, names, literals


def bars(names, cell, literals):
    """True if a shared literal does not hold at the cell."""
    return not all(shared_truth(names, cell, literal) for literal in literals if literal[0][0] == "")


class AllPartsTest(LookerCase):

    def test_terms_are_refused(self):
        self.refuses(BadCard, {"value": TERMS}, all_parts, TERMS, NAMES, [], (3, (0, 1, 2)))
        self.refuses(BadCard, {"value": TERMS}, all_parts, TERMS, NAMES, [SIZE_1], (3, (0, 1, 2)))

    def test_no_card(self):
        self.gives([()], all_parts, None, NAMES, [], (2, (0, 1, 1)))
        self.gives([()], all_parts, None, NAMES, [negated(SAME), SIZE_2], (2, (0, 1, 1)))
        self.gives([], all_parts, None, NAMES, [SAME], (2, (0, 1, 1)))
        self.gives([], all_parts, None, NAMES, (SIZE_2, negated(SIZE_2)), (2, (0, 1, 1)))
        self.gives([()], all_parts, None, (), (SIZE_1,), (1, ()))

    def test_each_card_has_its_own_parts(self):
        for cell in cells_over(3):
            self.gives(rows_parts(ROWS, NAMES, [], cell), all_parts, ROWS, NAMES, [], cell)
            self.gives(kinds_parts(KINDS, NAMES, [], cell), all_parts, KINDS, NAMES, [], cell)
            self.gives(below_parts(BELOW, NAMES, [], cell), all_parts, BELOW, NAMES, [], cell)
            self.gives(ring_parts(RING, NAMES, [], cell), all_parts, RING, NAMES, [], cell)

    def test_shared_and_own_literals(self):
        cell = (2, (0, 1, 1))
        self.gives([(2,)], all_parts, ROWS, NAMES, [word("o", "p"), negated(SAME)], cell)
        self.gives([], all_parts, ROWS, NAMES, [word("o", "p"), SAME], cell)
        self.gives([(0, 1), (1, 2), (2, 0)], all_parts, RING, NAMES, (SIZE_2, turn("o", "a", "c", 1)), cell)
        self.gives([], all_parts, RING, NAMES, (SIZE_1, turn("o", "a", "c", 1)), cell)

    def test_samples(self):
        for _, card, names, literals in samples(100, 200, ("rows", "kinds", "below", "ring", "none")):
            for cell in cells_over(len(names)):
                found = all_parts(card, names, literals, cell)
                every = all_parts(card, names, [], cell)
                self.assertEqual(found, sorted(found))
                self.assertEqual(found, [own for own in every if all(true_in(card, names, cell, own, literal)
                                                                     for literal in literals)])

    def test_the_list_is_new(self):
        found = all_parts(BELOW, NAMES, [], (3, (0, 1, 2)))
        found.clear()
        self.assertEqual(len(all_parts(BELOW, NAMES, [], (3, (0, 1, 2)))), 19)


class FitsTest(LookerCase):

    def test_no_card(self):
        self.gives((), fits, None, NAMES, [SAME], (1, (0, 0, 0)))
        self.gives(None, fits, None, NAMES, [SAME], (3, (0, 1, 0)))
        self.gives((), fits, None, NAMES, (), (3, (0, 1, 0)))

    def test_no_literals(self):
        self.gives((1,), fits, ROWS, NAMES, [], (2, (0, 1, 1)))
        self.gives(None, fits, ROWS, NAMES, [], (2, (0, 1, 0)))
        self.gives(("k", "k", "k"), fits, KINDS, NAMES, [], (3, (0, 1, 2)))
        self.gives(None, fits, KINDS, NAMES, [], (2, (0, 1, 1)))
        self.gives((), fits, BELOW, NAMES, [], (2, (0, 1, 1)))
        self.gives((0, 0), fits, RING, NAMES, [], (2, (0, 1, 1)))
        self.gives((), fits, TERMS, NAMES, [], (3, (0, 1, 1)))
        self.gives(None, fits, TERMS, NAMES, [], (2, (0, 1, 1)))

    def test_shared_literals_alone(self):
        for card in CARDS:
            self.gives(None, fits, card, NAMES, [SIZE_1], (3, (0, 1, 2)))
            self.gives(None, fits, card, NAMES, [SAME, negated(SAME)], (3, (0, 0, 0)))
            self.assertIsNone(fits(card, NAMES, [negated(SIZE_2), SAME], (3, (0, 1, 2))))
            self.assertIsNotNone(fits(card, NAMES, [negated(SIZE_2), negated(SAME)], (3, (0, 1, 2))))

    def test_the_chosen_part(self):
        self.gives(("k", "l"), fits, KINDS, NAMES, [of_kind("o", "b", "l")], (3, (0, 1, 1)))
        self.gives(((0, 1),), fits, BELOW, NAMES, [AB], (3, (0, 1, 2)))
        self.gives((0, 2), fits, RING, NAMES, [turn("o", "b", "a", 1)], (2, (0, 1, 1)))
        self.gives(((FA, 3), (FB, 3)), fits, TERMS, NAMES, [equal("o", FA, FB), negated(SAME)], (3, (0, 1, 2)))

    def test_literals_fit_where_some_model_has_them(self):
        seen = {}
        for _, card, names, literals in samples(101, 700):
            for cell in cells_over(len(names)):
                found = fits(card, names, literals, cell)
                wanted = slow_fits(card, names, literals, cell)
                self.assertEqual(found is not None, wanted, (card, names, literals, cell))
                if found is not None:
                    self.assertTrue(all(true_in(card, names, cell, found, literal) for literal in literals))
                form = card and card[0]
                seen[form, wanted] = seen.get((form, wanted), 0) + 1
        self.assertEqual(len(seen), 12)
        self.assertTrue(min(seen.values()) > 40, seen)

    def test_literals_fit_where_they_hold_in_an_own_part(self):
        for _, card, names, literals in samples(102, 300, ("rows", "kinds", "below", "ring")):
            for cell in cells_over(len(names)):
                every = all_parts(card, names, literals, cell)
                found = fits(card, names, literals, cell)
                if card == BELOW and every:
                    self.assertEqual(len(found), min(len(own) for own in every))
                    self.assertTrue(all(set(found) <= set(own) for own in every))
                else:
                    self.assertEqual(found, every[0] if every else None)

    def test_the_functions_of_the_cards_are_used(self):
        for _, card, names, literals in samples(103, 200, ("below", "terms")):
            own = [literal for literal in literals if literal[0][0] != ""]
            call = below_part if card == BELOW else terms_part
            for cell in cells_over(len(names)):
                wanted = None if bars(names, cell, literals) else call(card, names, own, cell)
                self.gives(wanted, fits, card, names, literals, cell)

    def test_greater_sizes_fit_below_and_ring_cards_too(self):
        for _, card, names, literals in samples(104, 200, ("below", "ring")):
            literals = [literal for literal in literals if literal[0][1] != "size"]
            for size, marks in cells_over(len(names)):
                found = fits(card, names, literals, (size, marks))
                if found is not None:
                    for greater in range(size, 4):
                        self.gives(found, fits, card, names, literals, (greater, marks))

    def test_renaming(self):
        for source, card, names, literals in samples(105, 300):
            if card is not None:
                mapping = dict(zip(names, source.sample(["a", "b", "c", "d1", "e"], len(names))))
                renamed = tuple(sorted(mapping.values()))
                for size, marks in cells_over(len(names)):
                    cell = (size, renamed_marks(names, marks, mapping))
                    other = fits(renamed_card(card, names, mapping), renamed,
                                 [renamed_literal(literal, mapping) for literal in literals], cell)
                    self.assertEqual(fits(card, names, literals, (size, marks)) is None, other is None)


class TrueInTest(LookerCase):

    def test_shared_literals(self):
        for card in [None, *CARDS]:
            for literal in shared_literals(NAMES):
                for cell in cells_over(3):
                    self.gives(shared_truth(NAMES, cell, literal), true_in, card, NAMES, cell, (), literal)

    def test_own_literals_of_both_signs(self):
        cell = (3, (0, 1, 2))
        terms = ((FA, 1), (FB, 3))
        for card, own, literal, wanted in [
                (ROWS, (3,), word("o", "q"), True), (ROWS, (3,), word("o", "p"), False),
                (ROWS, (3,), word("o", "z"), False),
                (KINDS, ("k", "l", "k"), of_kind("o", "b", "l"), True),
                (KINDS, ("k", "l", "k"), of_kind("o", "c", "l"), False),
                (BELOW, ((0, 1),), AB, True), (BELOW, ((0, 1),), BC, False),
                (BELOW, ((0, 1),), below("o", "a", "a"), False),
                (RING, (0, 2, 2), turn("o", "a", "b", 2), True), (RING, (0, 2, 2), turn("o", "b", "a", 2), False),
                (RING, (0, 2, 2), turn("o", "b", "b", 0), True), (RING, (0, 2, 2), turn("o", "b", "b", 1), False),
                (TERMS, terms, equal("o", FA, ("b",)), True), (TERMS, terms, equal("o", FA, FB), False),
                (TERMS, terms, equal("o", ("f", FA), FB), True)]:
            self.gives(wanted, true_in, card, NAMES, cell, own, literal)
            self.gives(not wanted, true_in, card, NAMES, cell, own, negated(literal))

    def test_the_truths_of_all_own_parts_are_those_of_all_models(self):
        source = random.Random(106)
        for _ in range(60):
            names = NAMES[:source.randint(0, 3)]
            card = random_card(source, len(names), ("rows", "kinds", "below", "ring"))
            for cell in cells_over(len(names)):
                models = theory_models("o", card, names, cell)
                atoms = set().union(*models, *[{atom} for atom in own_atom_samples(card, names)])
                found = {frozenset(atom for atom in atoms if true_in(card, names, cell, own, (atom, True)))
                         for own in all_parts(card, names, [], cell)}
                self.assertEqual(found, models)

    def test_the_own_part_of_a_below_card(self):
        for own in below_parts(BELOW, NAMES, [], (3, (0, 1, 2))):
            self.assertIs(true_in(BELOW, NAMES, (3, (0, 1, 2)), own, AC),
                          below_truth(BELOW, NAMES, (3, (0, 1, 2)), own, AC[0]))


def own_atom_samples(card, names):
    """Some atoms that never hold in any model."""
    if card[0] == "rows":
        return [("o", "word", "z")]
    return [("o", "below", name, name) for name in names] if card[0] == "below" else []


class CellsOfTest(LookerCase):

    def check(self, wanted, card, names, literals, **more):
        found = cells_of(card, names, literals, **more)
        self.assertIs(type(found), Cells)
        self.assertEqual((found.width, found.rows), (len(names), tuple(wanted)))
        self.gives(not wanted, clashes, card, names, literals, **more)

    def test_all_cells_are_asked_about(self):
        self.check(cells_over(3), None, NAMES, [])
        self.check(cells_over(3), BELOW, NAMES, ())
        self.check([(1, (0, 0, 0)), (2, (0, 1, 1)), (3, (0, 1, 2))], ROWS, NAMES, [])
        self.check([cell for cell in cells_over(3) if cell[0] == 3], TERMS, NAMES, [])
        self.check([(3, (0, 1, 2))], BELOW, NAMES, [AB, BC])
        self.check([], BELOW, NAMES, [AB, SAME])
        self.check([(3, ())], KINDS, (), [])

    def test_among_given_cells(self):
        some = Cells(3, [(3, (0, 1, 2)), (1, (0, 0, 0)), (2, (0, 1, 0))])
        self.check([(1, (0, 0, 0)), (3, (0, 1, 2))], ROWS, NAMES, [], among=some)
        self.check([], ROWS, NAMES, [], among=Cells(3, []))
        self.check([], ROWS, NAMES, [], among=Cells(3, [(2, (0, 1, 0))]))
        self.check([(1, (0, 0, 0)), (2, (0, 1, 1)), (3, (0, 1, 2))], ROWS, NAMES, [], among=Cells.every(3))
        self.check([(3, (0, 1, 2))], None, NAMES, [negated(SIZE_2)], among=some)
        self.check([], None, NAMES, [negated(SIZE_2), SAME], among=some)
        self.assertEqual(some.rows, ((1, (0, 0, 0)), (2, (0, 1, 0)), (3, (0, 1, 2))))

    def test_samples(self):
        for source, card, names, literals in samples(107, 300):
            wanted = [cell for cell in cells_over(len(names)) if fits(card, names, literals, cell) is not None]
            self.check(wanted, card, names, literals)
            self.check(wanted, card, names, tuple(literals), among=None)
            some = [cell for cell in cells_over(len(names)) if source.random() < 0.5]
            self.check([cell for cell in wanted if cell in some], card, names, literals,
                       among=Cells(len(names), some))


class LeastClashTest(LookerCase):

    def test_literals_that_do_not_clash(self):
        self.refuses(Stands, {}, least_clash, None, NAMES, [])
        self.refuses(Stands, {}, least_clash, None, NAMES, (SAME, SIZE_1))
        self.refuses(Stands, {}, least_clash, BELOW, NAMES, [AB, BC])
        self.refuses(Stands, {}, least_clash, ROWS, NAMES, [word("o", "q"), negated(SAME)])

    def test_shared_literals_alone(self):
        self.gives((negated(SAME), SIZE_1), least_clash, None, NAMES, [SAME, SIZE_1, negated(SAME)])
        self.gives((negated(SAME), SAME), least_clash, None, NAMES, (SAME, SIZE_2, negated(SAME), SAME))
        self.gives((SIZE_1, negated(SIZE_2)), least_clash, None, (), [negated(SIZE_2), SIZE_1])
        self.gives((SIZE_2,), least_clash, TERMS, NAMES, [SIZE_2, SAME])
        self.gives((negated(SIZE_2),), least_clash, ("kinds", (("k", 2),)), NAMES, [SAME, negated(SIZE_2)])

    def test_own_literals(self):
        self.gives((AB, negated(AC), BC), least_clash, BELOW, NAMES, [BC, negated(AC), AB, AB, negated(SAME)])
        self.gives((below("o", "a", "a"),), least_clash, BELOW, NAMES, [AB, below("o", "a", "a")])
        self.gives((negated(AB), AB), least_clash, BELOW, NAMES, [AB, negated(AB), AB])
        self.gives((word("o", "z"),), least_clash, ROWS, NAMES, [word("o", "p"), word("o", "z")])
        self.gives((SAME, negated(equal("o", FA, FB))), least_clash, TERMS, NAMES,
                   [negated(equal("o", FA, FB)), SAME, equal("o", FA, ("c",))])

    def test_the_first_that_can_be_left_out_is_left_out(self):
        told = [SAME, negated(SAME), SIZE_1, negated(SIZE_1)]
        self.gives((negated(SIZE_1), SIZE_1), least_clash, None, NAMES, told)

    def test_samples(self):
        seen = {True: 0, False: 0}
        for source, card, names, literals in samples(108, 500):
            literals += source.sample(shared_literals(names), 1)
            clash = not any(slow_fits(card, names, literals, cell) for cell in cells_over(len(names)))
            seen[clash] += 1
            if clash:
                self.gives(self.least(card, names, literals), least_clash, card, names, literals)
            else:
                self.refuses(Stands, {}, least_clash, card, names, literals)
        self.assertTrue(min(seen.values()) > 80, seen)

    def least(self, card, names, literals):
        """The least clash by the words of point 73, and a check that none of its literals can be left out."""
        def clash(some):
            return not any(slow_fits(card, names, some, cell) for cell in cells_over(len(names)))
        kept = sorted(set(literals))
        for literal in sorted(set(literals)):
            others = [other for other in kept if other != literal]
            kept = others if clash(others) else kept
        self.assertTrue(clash(kept))
        for some in itertools.combinations(kept, max(len(kept) - 1, 0)):
            self.assertFalse(kept and clash(some))
        return tuple(kept)
