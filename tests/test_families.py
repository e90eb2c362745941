import itertools
import random

from helper import LookerCase, terms_over
from onelooker.cards import check_literal
from onelooker.cells import Cells
from onelooker.deciders import cells_of
from onelooker.families import family, family_sets, unit_sets
from onelooker.literals import equal, negated, shared_literals
from onelooker.names import cells_over, meet
from onelooker.typetables import own_atoms, type_rows
from slow import every_atom, random_card, shared_truth, slow_fits

EVERY_NAME = ("a", "b", "c")
FORMS = ("rows", "kinds", "below", "ring")
CARDS = [("rows", (((1, (0, 0)), ("p",)), ((2, (0, 1)), ()), ((3, (0, 1)), ("p", "q")))), ("below",), ("ring", 2),
         ("ring", 3), ("terms",), ("kinds", (("k", 0), ("l", 1))), ("kinds", (("k", 1), ("l", 1))), ("kinds", (("k", 1),))]


def names_of(width):
    return EVERY_NAME[:width]


class UnitSetsTest(LookerCase):

    def test_how_many(self):
        for width, many in enumerate([6, 6, 14, 51]):
            self.assertEqual(len(unit_sets(names_of(width))), many)

    def test_no_names(self):
        found = unit_sets(())
        self.assertIs(type(found), list)
        self.assertTrue(all(type(cells) is Cells and cells.width == 0 for cells in found))
        self.assertEqual([[size for size, _ in cells.rows] for cells in found],
                         [[1], [1, 2], [1, 2, 3], [2], [2, 3], [3]])

    def test_all_lists_of_shared_literals(self):
        for width in range(4):
            names = names_of(width)
            found = set()
            atoms = sorted({atom for atom, _ in shared_literals(names)})
            for signs in itertools.product((None, False, True), repeat=len(atoms)):
                told = [(atom, sign) for atom, sign in zip(atoms, signs) if sign is not None]
                cells = tuple(cell for cell in cells_over(width)
                              if all(shared_truth(names, cell, literal) for literal in told))
                found.add(cells)
            self.assertEqual([cells.rows for cells in unit_sets(names)], sorted(found - {()}))

    def test_the_list_is_new(self):
        found = unit_sets(("a",))
        found.clear()
        self.assertEqual(len(unit_sets(("a",))), 6)


def wanted_sets(owner, card, names, literals, most):
    """The nonempty sets of cells that lists of up to so many of the literals fit, found by trying."""
    found = set()
    for size in range(most + 1):
        for some in itertools.combinations(literals, size):
            if len({atom for atom, _ in some}) == size:
                found.add(tuple(cell for cell in cells_over(len(names)) if slow_fits(card, names, some, cell)))
    return sorted(found - {()})


class FamilyTest(LookerCase):

    def check(self, owner, card, names):
        """The family is well formed, and its literals fit exactly its sets."""
        found = family(owner, card, names)
        self.assertIs(type(found), list)
        sets = [cells.rows for cells, _ in found]
        self.assertEqual(sets, sorted(set(sets)))
        for cells, literals in found:
            self.assertEqual((type(cells), cells.width, type(literals)), (Cells, len(names), tuple))
            self.assertLessEqual(len(literals), 12)
            self.assertEqual(list(literals), sorted(set(literals)))
            for literal in literals:
                check_literal(literal, names, {owner: card})
                self.assertEqual(literal[0][0], owner)
            self.assertEqual(cells_of(card, names, literals), cells)
        self.assertEqual([cells.rows for cells in family_sets(owner, card, names)], sets)
        return sets

    def test_small_families(self):
        everything = tuple(cells_over(2))
        apart = ((2, (0, 1)), (3, (0, 1)))
        self.assertEqual(self.check("o", ("below",), ("a", "b")), [everything, apart])
        self.assertEqual(self.check("o", ("below",), ("a",)), [tuple(cells_over(1))])
        self.assertEqual(self.check("o", ("ring", 2), ("a", "b")), [everything, apart])
        self.assertEqual(self.check("o", ("kinds", (("k", 0), ("l", 0))), ("a", "b")), [
            ((3, (0, 0)), (3, (0, 1))), ((3, (0, 1)),)])
        self.assertEqual(self.check("o", ("kinds", (("k", 1), ("l", 1))), ("a", "b")), [
            ((2, (0, 0)),), ((2, (0, 0)), (2, (0, 1))), ((2, (0, 1)),)])

    def test_rows(self):
        low, middle, high = (1, (0, 0)), (2, (0, 1)), (3, (0, 1))
        self.assertEqual(self.check("r", CARDS[0], ("a", "b")), [
            (low,), (low, middle), (low, middle, high), (low, high), (middle,), (high,)])
        self.assertEqual(self.check("r", ("rows", (((2, ()), ()),)), ()), [((2, ()),)])

    def test_terms(self):
        for width, many in enumerate([1, 1, 3, 23]):
            names = names_of(width)
            wanted = []
            every = [cell for cell in cells_over(width) if cell[0] == 3]
            for size in range(1, len(every) + 1):
                for some in itertools.combinations(every, size):
                    if all((3, meet(low, high)) in some for _, low in some for _, high in some):
                        wanted.append(some)
            self.assertEqual(self.check("t", ("terms",), names), sorted(wanted))
            self.assertEqual(len(wanted), many)

    def test_literals_of_terms_fit_sets_of_the_family_alone(self):
        source = random.Random(180)
        for width in (1, 2, 3):
            names = names_of(width)
            sets = self.check("t", ("terms",), names)
            seen = set()
            for _ in range(150):
                terms = source.sample(terms_over(names, ("f", "g"), 2), 3) + [(name,) for name in names]
                atoms = every_atom("t", ("terms",), names, terms)
                told = [(atom, source.random() < 0.6) for atom in source.sample(atoms, source.randint(0, 3))]
                cells = cells_of(("terms",), names, told).rows
                self.assertIn(cells, [*sets, ()])
                seen.add(cells)
            self.assertGreater(len(seen), width)

    def test_the_first_literals_of_point_108(self):
        f = ("f", ("a",)), ("f", ("b",))
        self.assertEqual(cells_of(("terms",), ("a", "b"), [negated(equal("t", *f))]).rows, ((3, (0, 1)),))
        self.assertEqual(cells_of(("terms",), ("a", "b"), [equal("t", f[0], ("a",)), equal("t", f[0], ("b",))]).rows,
                         ((3, (0, 0)),))

    def test_all_lists_of_own_literals(self):
        for card in CARDS:
            if card[0] != "terms":
                literals = [(atom, sign) for atom in every_atom("o", card, ("a", "b")) for sign in (False, True)]
                self.assertEqual(self.check("o", card, ("a", "b")), wanted_sets("o", card, ("a", "b"), literals, 3))

    def test_samples(self):
        source = random.Random(181)
        sizes = set()
        for number in range(60):
            names = names_of(source.randint(0, 3))
            card = random_card(source, len(names), (FORMS[number % 4],))
            sets = self.check("o", card, names)
            sizes.add(len(sets))
            self.assertEqual(sets, from_lists_of_rows("o", card, names))
            if number < 24:
                atoms = every_atom("o", card, names)
                literals = [(atom, source.random() < 0.5) for atom in source.sample(atoms, min(5, len(atoms)))]
                for some in wanted_sets("o", card, names, literals, 5):
                    self.assertIn(some, sets)
        self.assertGreater(len(sizes), 6)

    def test_the_largest_tables(self):
        source = random.Random(182)
        texts = ["p", "q", "r", "s", "t", "u"]
        rows = set()
        while len(rows) < 64:
            rows.add((source.choice(cells_over(3)), tuple(text for text in texts if source.random() < 0.5)))
        for card in [("rows", tuple(sorted(rows))), ("ring", 3), ("kinds", (("k", 0), ("l", 1), ("m", 2)))]:
            self.assertEqual(self.check("o", card, EVERY_NAME), from_lists_of_rows("o", card, EVERY_NAME))


def from_lists_of_rows(owner, card, names):
    """The sets of a family by the words of point 107."""
    rows = type_rows(owner, card, names)
    literals = [(atom, sign) for atom in own_atoms(owner, card, names) for sign in (False, True)]
    found, last = {tuple(rows)}, {tuple(rows)}
    while last:
        last = {tuple(row for row in some if (atom in row[1]) == sign)
                for some in last for atom, sign in literals} - found
        found |= last
    return sorted({tuple(dict.fromkeys(cell for cell, _ in some)) for some in found if some})


class FamilySetsTest(LookerCase):

    def check(self, owner, card, names, inside):
        sets = [cells for cells, _ in family(owner, card, names)]
        wanted = sorted({(cells & inside).rows for cells in sets} - {()})
        before = inside.rows
        found = list(family_sets(owner, card, names, inside=inside))
        self.assertTrue(all(type(cells) is Cells and cells.width == len(names) for cells in found))
        self.assertEqual([cells.rows for cells in found], wanted)
        self.assertEqual(inside.rows, before)

    def test_inside_given_cells(self):
        source = random.Random(183)
        for card in CARDS:
            for inside in [Cells.every(2), Cells(2, []), Cells(2, [(3, (0, 1))]), Cells(2, [(1, (0, 0)), (3, (0, 0))])]:
                self.check("o", card, ("a", "b"), inside)
        for number in range(40):
            names = names_of(source.randint(0, 3))
            card = random_card(source, len(names), (*FORMS, "terms")[number % 5:][:1])
            some = [cell for cell in cells_over(len(names)) if source.random() < 0.5]
            self.check("o", card, names, Cells(len(names), some))

    def test_none_of_the_cells(self):
        self.assertEqual(list(family_sets("o", ("below",), ("a",), inside=Cells(1, []))), [])
        self.assertEqual(list(family_sets("o", ("terms",), ("a",), inside=Cells(1, [(1, (0,)), (2, (0,))]))), [])

    def test_without_inside(self):
        for card in CARDS:
            sets = [cells for cells, _ in family("o", card, ("a", "b"))]
            self.assertEqual(list(family_sets("o", card, ("a", "b"))), sets)
            self.assertEqual(list(family_sets("o", card, ("a", "b"), inside=None)), sets)

    def test_they_are_generated(self):
        found = family_sets("o", ("below",), ("a", "b"))
        self.assertIs(iter(found), found)
        self.assertEqual(next(found), Cells.every(2))
        found = family_sets("o", ("below",), None)
        with self.assertRaises(TypeError):
            next(found)
