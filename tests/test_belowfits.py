import itertools
import random

from helper import LookerCase
from onelooker.belowfits import below_part, below_parts, below_truth, closed_pairs, orders
from onelooker.literals import below, negated
from onelooker.names import block_count, cells_over
from slow import is_order, orders_on

CARD = ("below",)
NAMES = ("a", "b", "c")
AB, BC, CA, BA, AC = [below("o", low, high) for low, high in ("ab", "bc", "ca", "ba", "ac")]


class ClosedPairsTest(LookerCase):

    def test_no_pairs(self):
        self.gives((), closed_pairs, [])
        self.gives((), closed_pairs, ())

    def test_pairs_that_are_closed_already(self):
        self.gives(((0, 1), (0, 2)), closed_pairs, [(0, 2), (0, 1), (0, 2)])
        self.gives(((0, 1), (0, 2), (1, 2)), closed_pairs, ((1, 2), (0, 2), (0, 1)))
        self.gives(((4, 4),), closed_pairs, [(4, 4)])

    def test_chains(self):
        self.gives(((0, 1), (0, 2), (1, 2)), closed_pairs, [(1, 2), (0, 1)])
        self.gives(((-3, 7), (-3, 100), (7, 100)), closed_pairs, [(7, 100), (-3, 7)])
        self.gives(tuple(itertools.combinations(range(6), 2)), closed_pairs, [(at, at + 1) for at in range(5)])

    def test_rings(self):
        self.gives(((0, 0), (0, 1), (1, 0), (1, 1)), closed_pairs, [(0, 1), (1, 0)])
        self.gives(tuple(itertools.product(range(3), repeat=2)), closed_pairs, [(0, 1), (1, 2), (2, 0)])
        self.gives(((0, 1), (0, 2), (1, 1), (1, 2), (2, 1), (2, 2)), closed_pairs, [(0, 1), (1, 2), (2, 1)])

    def test_long_chains(self):
        self.assertEqual(closed_pairs([(at, at + 1) for at in range(120)]),
                         tuple(itertools.combinations(range(121), 2)))

    def test_samples(self):
        source = random.Random(90)
        for _ in range(200):
            pairs = [(source.randint(0, 4), source.randint(0, 4)) for _ in range(source.randint(0, 6))]
            wanted = set(pairs)
            while True:
                more = {(low, high) for low, middle in wanted for other, high in wanted if middle == other}
                if more <= wanted:
                    break
                wanted |= more
            self.gives(tuple(sorted(wanted)), closed_pairs, pairs)


class OrdersTest(LookerCase):

    def test_small(self):
        self.gives([()], orders, 0)
        self.gives([()], orders, 1)
        self.gives([(), ((0, 1),), ((1, 0),)], orders, 2)

    def test_all(self):
        for count in range(4):
            self.gives(sorted(tuple(sorted(found)) for found in orders_on(count)), orders, count)
        self.assertEqual(len(orders(3)), 19)


class PartsTest(LookerCase):

    def check(self, wanted, least, literals, cell, names=NAMES):
        for given in (list(literals), tuple(literals)):
            self.gives(wanted, below_parts, CARD, names, given, cell)
            self.gives(least, below_part, CARD, names, given, cell)

    def test_all_sizes(self):
        for cell in cells_over(3):
            self.check(orders(block_count(cell[1])), (), [], cell)

    def test_no_names(self):
        for size in (1, 2, 3):
            self.check([()], (), [], (size, ()), ())

    def test_literals(self):
        self.check([((0, 1),)], ((0, 1),), [AB], (2, (0, 1, 1)))
        self.check([(), ((1, 0),)], (), [negated(AB)], (2, (0, 1, 1)))
        self.check([((0, 1), (0, 2), (1, 2))], ((0, 1), (0, 2), (1, 2)), [BC, AB], (3, (0, 1, 2)))
        self.check([((0, 1),), ((0, 1), (0, 2)), ((0, 1), (0, 2), (2, 1)), ((0, 1), (2, 1))], ((0, 1),),
                   [AB, negated(BC), negated(CA)], (3, (0, 1, 2)))

    def test_rings_and_denied_consequences(self):
        self.check([], None, [AB, BA], (3, (0, 1, 2)))
        self.check([], None, [AB, BC, CA], (3, (0, 1, 2)))
        self.check([], None, [AB, BC, negated(AC)], (3, (0, 1, 2)))
        self.check([], None, [AB, negated(AB)], (3, (0, 1, 2)))
        self.check([], None, [AB], (3, (0, 0, 1)))
        self.check([], None, [AB, BC], (2, (0, 1, 0)))

    def test_a_name_with_itself(self):
        self.check([], None, [below("o", "a", "a")], (3, (0, 1, 2)))
        self.check(orders(2), (), [negated(below("o", "a", "a"))], (3, (0, 1, 1)))

    def test_the_least_part_is_in_all_others(self):
        atoms = [("o", "below", low, high) for low in NAMES for high in NAMES]
        source = random.Random(91)
        seen = {True: 0, False: 0}
        for _ in range(400):
            cell = source.choice(cells_over(3))
            literals = [(source.choice(atoms), source.random() < 0.5) for _ in range(source.randint(0, 4))]
            found = below_parts(CARD, NAMES, literals, cell)
            least = below_part(CARD, NAMES, literals, cell)
            seen[least is None] += 1
            if least is None:
                self.assertEqual(found, [])
            else:
                self.assertIn(least, found)
                self.assertTrue(all(set(least) <= set(own) for own in found))
        self.assertTrue(min(seen.values()) > 100, seen)


class TruthTest(LookerCase):

    def test_the_pair_of_the_blocks_is_in_the_own_part(self):
        cell, blocks = (3, (0, 1, 0)), {"a": 0, "b": 1, "c": 0}
        for own in orders(2):
            self.assertTrue(is_order(set(own)))
            for low in NAMES:
                for high in NAMES:
                    self.gives((blocks[low], blocks[high]) in own, below_truth, CARD, NAMES, cell, own,
                               ("o", "below", low, high))
