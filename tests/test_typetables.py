import itertools
import random

from helper import LookerCase
from onelooker.cards import check_literal
from onelooker.deciders import fits
from onelooker.errors import BadCard
from onelooker.names import cells_over
from onelooker.typetables import own_atoms, type_rows
from slow import random_card, theory_models

NAMES = ("a", "b", "c")
FORMS = ("rows", "kinds", "below", "ring")
ROWS = ("rows", (((2, (0, 1)), ("q", "r")), ((2, (0, 1)), ("x",)), ((3, (0, 1)), ("a", "q"))))


def cards_over(seed, many):
    """Cards that are no terms cards, and names for them, always the same for a seed."""
    source = random.Random(seed)
    for number in range(many):
        names = NAMES[:source.randint(0, 3)]
        yield source, random_card(source, len(names), (FORMS[number % 4],)), names


def wanted_atoms(owner, card, names):
    """The own atoms by the words of point 74."""
    if card[0] == "rows":
        found = {(owner, "word", text) for _, words in card[1] for text in words}
    elif card[0] == "kinds":
        found = {(owner, "kind", name, kind) for name in names for kind, _ in card[1]}
    elif card[0] == "below":
        found = {(owner, "below", low, high) for low, high in itertools.permutations(names, 2)}
    else:
        found = {(owner, "turn", low, high, steps) for low, high in itertools.combinations(names, 2)
                 for steps in range(card[1])}
    return sorted(found)


class OwnAtomsTest(LookerCase):

    def test_terms_are_refused(self):
        self.refuses(BadCard, {"value": ("terms",)}, own_atoms, "o", ("terms",), NAMES)
        self.refuses(BadCard, {"value": ("terms",)}, own_atoms, "o", ("terms",), ())

    def test_each_card(self):
        self.gives([("o", "word", "a"), ("o", "word", "q"), ("o", "word", "r"), ("o", "word", "x")], own_atoms, "o",
                   ROWS, ("a", "b"))
        self.gives([("x", "kind", "a", "k"), ("x", "kind", "a", "l"), ("x", "kind", "b", "k"), ("x", "kind", "b", "l")],
                   own_atoms, "x", ("kinds", (("k", 0), ("l", 1))), ("a", "b"))
        self.gives([("o", "below", "a", "b"), ("o", "below", "b", "a")], own_atoms, "o", ("below",), ("a", "b"))
        self.gives([("o", "turn", "a", "b", 0), ("o", "turn", "a", "b", 1), ("o", "turn", "a", "b", 2)], own_atoms,
                   "o", ("ring", 3), ("a", "b"))

    def test_no_names_and_one_name(self):
        for names in ((), ("a",)):
            self.gives([], own_atoms, "o", ("below",), names)
            self.gives([], own_atoms, "o", ("ring", 2), names)
        self.gives([], own_atoms, "o", ("kinds", (("k", 1),)), ())
        self.gives([("o", "kind", "a", "k")], own_atoms, "o", ("kinds", (("k", 1),)), ("a",))
        self.gives([("o", "word", "p")], own_atoms, "o", ("rows", (((1, ()), ("p",)),)), ())
        self.gives([], own_atoms, "o", ("rows", (((1, ()), ()),)), ())

    def test_samples(self):
        for _, card, names in cards_over(110, 80):
            self.gives(wanted_atoms("o1", card, names), own_atoms, "o1", card, names)
            for atom in own_atoms("o1", card, names):
                check_literal((atom, True), names, {"o1": card})


class TypeRowsTest(LookerCase):

    def test_terms_are_refused(self):
        self.refuses(BadCard, {"value": ("terms",)}, type_rows, "o", ("terms",), ("a",))

    def test_small_tables(self):
        self.gives([((2, (0, 1)), (("o", "word", "q"), ("o", "word", "r"))), ((2, (0, 1)), (("o", "word", "x"),)),
                    ((3, (0, 1)), (("o", "word", "a"), ("o", "word", "q")))], type_rows, "o", ROWS, ("a", "b"))
        low, high = ("o", "below", "a", "b"), ("o", "below", "b", "a")
        self.gives([((1, (0, 0)), ()), ((2, (0, 0)), ()), ((2, (0, 1)), ()), ((2, (0, 1)), (low,)),
                    ((2, (0, 1)), (high,)), ((3, (0, 0)), ()), ((3, (0, 1)), ()), ((3, (0, 1)), (low,)),
                    ((3, (0, 1)), (high,))], type_rows, "o", ("below",), ("a", "b"))
        self.gives([((2, ()), ())], type_rows, "o", ("kinds", (("k", 1), ("l", 1))), ())

    def test_equal_rows_are_listed_once(self):
        steps = [("o", "turn", "a", "b", 0), ("o", "turn", "a", "b", 1)]
        self.gives([((1, (0, 0)), (steps[0],)), ((2, (0, 0)), (steps[0],)), ((2, (0, 1)), (steps[0],)),
                    ((2, (0, 1)), (steps[1],)), ((3, (0, 0)), (steps[0],)), ((3, (0, 1)), (steps[0],)),
                    ((3, (0, 1)), (steps[1],))], type_rows, "o", ("ring", 2), ("a", "b"))
        self.gives([((size, (0,)), ()) for size in (1, 2, 3)], type_rows, "o", ("ring", 3), ("a",))

    def test_the_rows_are_what_models_have(self):
        for _, card, names in cards_over(111, 80):
            atoms = wanted_atoms("o", card, names)
            wanted = {(cell, tuple(atom for atom in atoms if atom in model))
                      for cell in cells_over(len(names)) for model in theory_models("o", card, names, cell)}
            self.gives(sorted(wanted), type_rows, "o", card, names)

    def test_literals_fit_where_a_row_has_them(self):
        seen = {True: 0, False: 0}
        for source, card, names in cards_over(112, 200):
            rows, atoms = type_rows("o", card, names), own_atoms("o", card, names)
            literals = [(source.choice(atoms), source.random() < 0.5) for _ in range(3 if atoms else 0)]
            for cell in cells_over(len(names)):
                wanted = any(place == cell and all((atom in held) == sign for atom, sign in literals)
                             for place, held in rows)
                self.assertEqual(fits(card, names, literals, cell) is not None, wanted)
                seen[wanted] += 1
        self.assertTrue(min(seen.values()) > 100, seen)

    def test_the_list_is_new(self):
        for call in (own_atoms, type_rows):
            found = call("o", ROWS, ("a", "b"))
            wanted = list(found)
            found.clear()
            self.gives(wanted, call, "o", ROWS, ("a", "b"))
