import itertools
import random

from helper import LookerCase
from onelooker.asrows import rows_card
from onelooker.cells import Cells
from onelooker.convexity import cards_alike, is_convex, is_smooth, meet_gap, table_closed
from onelooker.families import family_sets, unit_sets
from onelooker.names import cells_over, meet
from onelooker.typetables import type_rows
from slow import random_card

EVERY = ("a", "b", "c")
FORMS = ("rows", "kinds", "below", "ring")
KINDS = [tuple(sorted(zip("klm", counts))) for many in (1, 2, 3) for counts in itertools.product((0, 1, 2), repeat=many)]
KINDS = [("kinds", counts) for counts in KINDS if 0 in dict(counts).values() or sum(dict(counts).values()) <= 2]


def rows_at(*cells):
    """The rows card without words that has these cells."""
    return ("rows", tuple((cell, ()) for cell in sorted(cells)))


def met(cells):
    """The meet of the partitions of some cells."""
    marks = [marks for _, marks in cells]
    found = marks[0]
    for one in marks:
        found = meet(found, one)
    return found


class SmoothTest(LookerCase):

    def test_by_the_words_of_point_110(self):
        source = random.Random(200)
        seen = {True: 0, False: 0}
        for _ in range(150):
            names = EVERY[:source.randint(0, 3)]
            card = random_card(source, len(names), FORMS)
            rows = type_rows("o", card, names)
            wanted = all(((more, marks), atoms) in rows for (size, marks), atoms in rows for more in (1, 2, 3) if more > size)
            self.gives(wanted, is_smooth, "o", card, names)
            seen[wanted] += 1
        self.assertTrue(min(seen.values()) > 20, seen)

    def test_the_forms_of_cards(self):
        for width in range(4):
            names = EVERY[:width]
            for card in (("below",), ("ring", 2), ("ring", 3), ("terms",)):
                self.gives(True, is_smooth, "o", card, names)
            for card in KINDS:
                self.gives(0 in dict(card[1]).values(), is_smooth, "o", card, names)

    def test_rows(self):
        one, two, three = (1, (0,)), (2, (0,)), (3, (0,))
        self.gives(True, is_smooth, "o", rows_at(one, two, three), ("a",))
        self.gives(True, is_smooth, "o", rows_at(three), ("a",))
        self.gives(False, is_smooth, "o", rows_at(one, three), ("a",))
        self.gives(False, is_smooth, "o", rows_at(two), ("a",))
        self.gives(False, is_smooth, "o", ("rows", ((two, ()), (three, ("p",)))), ("a",))
        self.gives(False, is_smooth, "o", rows_at((2, (0, 0)), (3, (0, 1))), ("a", "b"))


class ConvexTest(LookerCase):

    def slow_gap(self, card, names):
        """The first known set without a cell as in point 111, found by going through all sets that can be known."""
        known = {tuple(cell for cell in cells.rows if cell in unit.rows)
                 for cells in family_sets("o", card, names) for unit in unit_sets(names)}
        bad = [rows for rows in known if rows and met(rows) not in [marks for _, marks in rows]]
        return min(bad) if bad else None

    def check(self, card, names):
        """The gap is the one found by trying; a theory is convex exactly if its table is closed."""
        wanted = self.slow_gap(card, names)
        found = meet_gap("o", card, names)
        if wanted is None:
            self.assertIsNone(found)
        else:
            self.assertEqual((type(found), found.width, found.rows), (Cells, len(names), wanted))
        self.gives(wanted is None, is_convex, "o", card, names)
        self.gives(wanted is None, table_closed, "o", card, names)
        return wanted is None

    def test_samples(self):
        source = random.Random(201)
        seen = {True: 0, False: 0}
        for _ in range(150):
            names = EVERY[:source.randint(0, 3)]
            seen[self.check(random_card(source, len(names), FORMS), names)] += 1
        self.assertTrue(min(seen.values()) > 15, seen)

    def test_the_table_is_closed_by_the_words_of_point_112(self):
        source = random.Random(202)
        for _ in range(60):
            names = EVERY[:source.randint(0, 3)]
            card = random_card(source, len(names), FORMS)
            rows = type_rows("o", card, names)
            wanted = all(any(
                row[0][1] == meet(low[0][1], high[0][1])
                and min(low[0][0], high[0][0]) <= row[0][0] <= max(low[0][0], high[0][0])
                and set(low[1]) & set(high[1]) <= set(row[1]) <= set(low[1]) | set(high[1]) for row in rows)
                for low in rows for high in rows)
            self.gives(wanted, table_closed, "o", card, names)

    def test_below_and_three_names(self):
        found = meet_gap("o", ("below",), EVERY)
        self.assertEqual(found, Cells(3, [cell for cell in cells_over(3) if cell[0] < 3]))
        self.check(("below",), EVERY)
        for width in range(3):
            self.assertTrue(self.check(("below",), EVERY[:width]))

    def test_the_forms_of_cards(self):
        self.assertFalse(self.check(("kinds", (("k", 2),)), EVERY))
        self.assertFalse(self.check(("ring", 3), EVERY))
        self.assertTrue(self.check(("kinds", (("k", 1),)), EVERY))
        for card in KINDS[:12]:
            self.check(card, EVERY[:2])

    def test_terms(self):
        for width in range(4):
            self.gives(None, meet_gap, "o", ("terms",), EVERY[:width])
            self.gives(True, is_convex, "o", ("terms",), EVERY[:width])
            self.gives(True, table_closed, "o", ("terms",), EVERY[:width])

    def test_sets_that_terms_can_know_have_the_meet(self):
        for cells in family_sets("o", ("terms",), EVERY):
            for unit in unit_sets(EVERY):
                rows = (cells & unit).rows
                self.assertTrue(rows == () or met(rows) in [marks for _, marks in rows])

    def test_sizes_between_and_atoms_in_one_of_both(self):
        names = ("a", "b", "c")
        low, high, down = (0, 0, 1), (0, 1, 1), (0, 1, 2)
        self.check(rows_at((2, low), (2, high), (3, down)), names)
        self.assertFalse(table_closed("o", rows_at((2, low), (2, high), (3, down)), names))
        self.assertTrue(self.check(rows_at((3, low), (3, high), (3, down)), names))
        for words, wanted in (((), True), (("p",), True), (("p", "q"), True), (("r",), False), (("p", "r"), False)):
            card = ("rows", (((3, low), ("p",)), ((3, down), words), ((3, high), ("q",))))
            self.assertIs(self.check(card, names), wanted)
        for words, wanted in (((), False), (("p",), True), (("p", "r"), False), (("p", "q"), True)):
            card = ("rows", (((3, low), ("p",)), ((3, down), words), ((3, high), ("p", "q"))))
            self.assertIs(self.check(card, names), wanted)


class AlikeTest(LookerCase):

    def test_samples(self):
        source = random.Random(203)
        seen = {True: 0, False: 0}
        for _ in range(150):
            names = EVERY[:source.randint(0, 2)]
            first, second = [random_card(source, len(names)) for _ in range(2)]
            families = [{cells.rows for cells in family_sets("o", card, names)} for card in (first, second)]
            wanted = families[0] == families[1]
            self.gives(wanted, cards_alike, "o", first, second, names)
            self.gives(wanted, cards_alike, "o", second, first, names)
            self.gives(True, cards_alike, "o", first, first, names)
            seen[wanted] += 1
        self.assertTrue(min(seen.values()) > 10, seen)

    def test_words_may_differ(self):
        first = ("rows", (((1, (0,)), ("p",)), ((3, (0,)), ())))
        second = ("rows", (((1, (0,)), ()), ((3, (0,)), ("q", "r"))))
        self.gives(True, cards_alike, "o", first, second, ("a",))
        self.gives(False, cards_alike, "o", first, rows_at((1, (0,)), (3, (0,))), ("a",))

    def test_cards_written_as_rows(self):
        for card, width in ((("below",), 3), (("ring", 3), 2), (("kinds", (("k", 0), ("l", 1))), 3)):
            names = EVERY[:width]
            self.gives(True, cards_alike, "o", card, rows_card("o", card, names), names)

    def test_terms(self):
        names = ("a", "b")
        card = ("rows", (((3, (0, 0)), ("p",)), ((3, (0, 1)), ())))
        self.gives(True, cards_alike, "o", ("terms",), ("terms",), names)
        self.gives(True, cards_alike, "o", ("terms",), card, names)
        self.gives(False, cards_alike, "o", ("terms",), ("below",), names)
