import itertools

from helper import LookerCase
from onelooker.literals import negated, turn
from onelooker.names import block_count, cells_over
from onelooker.ringfits import ring_parts, ring_truth

NAMES = ("a", "b", "c")


class PartsTest(LookerCase):

    def check(self, wanted, colors, literals, cell, names=NAMES):
        for given in (list(literals), tuple(literals)):
            self.gives(wanted, ring_parts, ("ring", colors), names, given, cell)

    def test_any_colors_at_all_sizes(self):
        for colors in (2, 3):
            for cell in cells_over(3):
                self.check(list(itertools.product(range(colors), repeat=block_count(cell[1]))), colors, [], cell)

    def test_no_names_and_one_name(self):
        for size in (1, 2, 3):
            self.check([()], 2, [], (size, ()), ())
            self.check([(0,), (1,), (2,)], 3, [], (size, (0,)), ("a",))

    def test_two_colors(self):
        cell = (2, (0, 1, 0))
        self.check([(0, 1), (1, 0)], 2, [turn("o", "a", "b", 1)], cell)
        self.check([(0, 1), (1, 0)], 2, [turn("o", "b", "c", 1)], cell)
        self.check([(0, 0), (1, 1)], 2, [negated(turn("o", "b", "a", 1))], cell)
        self.check([], 2, [turn("o", "a", "b", 1), turn("o", "b", "c", 0)], cell)

    def test_three_colors(self):
        cell = (3, (0, 1, 2))
        self.check([(0, 1, 0), (1, 2, 1), (2, 0, 2)], 3, [turn("o", "a", "b", 1), turn("o", "b", "c", 2)], cell)
        self.check([(0, 2), (1, 0), (2, 1)], 3, [turn("o", "a", "c", 2)], (2, (0, 0, 1)))
        self.check([], 3, [turn("o", "a", "b", 1), turn("o", "b", "a", 1)], cell)

    def test_no_steps(self):
        self.check([(0, 0), (1, 1), (2, 2)], 3, [turn("o", "b", "a", 0)], (3, (0, 1, 1)))
        self.check([(0,), (1,)], 2, [turn("o", "a", "b", 0)], (1, (0, 0, 0)))
        self.check([], 2, [negated(turn("o", "a", "b", 0))], (1, (0, 0, 0)))

    def test_a_turn_to_the_same_name(self):
        self.check([(0,), (1,), (2,)], 3, [turn("o", "b", "b", 0)], (3, (0, 0, 0)))
        self.check([], 3, [negated(turn("o", "b", "b", 0))], (3, (0, 0, 0)))
        self.check([], 3, [turn("o", "b", "b", 2)], (3, (0, 0, 0)))
        self.check([(0,), (1,)], 2, [negated(turn("o", "b", "b", 1))], (3, (0, 0, 0)))

    def test_the_same_literal_twice_and_its_negation(self):
        told = turn("o", "a", "b", 1)
        self.check([(0, 1), (1, 0)], 2, [told, told], (3, (0, 1, 0)))
        self.check([], 2, [told, negated(told)], (3, (0, 1, 0)))


class TruthTest(LookerCase):

    def test_the_colors_are_as_the_atom_says(self):
        for colors in (2, 3):
            for own in itertools.product(range(colors), repeat=2):
                color = {"a": own[0], "b": own[1], "c": own[0]}
                for low, high, steps in itertools.product(NAMES, NAMES, range(colors)):
                    self.gives((color[low] + steps) % colors == color[high], ring_truth, ("ring", colors), NAMES,
                               (2, (0, 1, 0)), own, ("o", "turn", low, high, steps))
