import itertools

from helper import LookerCase
from onelooker.cards import check_card
from onelooker.kindsfits import kinds_parts, kinds_size, kinds_truth
from onelooker.literals import negated, of_kind
from onelooker.names import block_count, cells_over

NAMES = ("a", "b", "c")
ENDLESS_CARD = ("kinds", (("k", 0), ("l", 1), ("m", 2)))
PAIR_CARD = ("kinds", (("k", 1), ("l", 1)))
COUNTS = [counts for many in (1, 2, 3) for counts in itertools.product((0, 1, 2), repeat=many)
          if 0 in counts or sum(counts) <= 2]
CARDS = [("kinds", tuple(zip("klm", counts))) for counts in COUNTS]


class SizeTest(LookerCase):

    def test_the_size_that_the_card_asks_for(self):
        for size, counts in [(1, (1,)), (2, (2,)), (2, (1, 1)), (3, (0,)), (3, (0, 0)), (3, (0, 1)), (3, (2, 0)),
                             (3, (0, 1, 2)), (3, (1, 1, 0)), (3, (2, 2, 0)), (3, (0, 0, 0))]:
            self.gives(size, kinds_size, ("kinds", tuple(zip("klm", counts))))

    def test_all_cards(self):
        for card in CARDS:
            check_card(card, 0)
            self.assertIn(kinds_size(card), (1, 2, 3))


class PartsTest(LookerCase):

    def check(self, wanted, card, names, literals, cell):
        for given in (list(literals), tuple(literals)):
            self.gives([tuple(own) for own in wanted], kinds_parts, card, names, given, cell)

    def test_a_size_that_the_card_does_not_ask_for(self):
        for cell in cells_over(2):
            for card in CARDS:
                if cell[0] != kinds_size(card):
                    self.check([], card, ("a", "b"), [], cell)

    def test_no_names(self):
        self.check([""], ENDLESS_CARD, (), [], (3, ()))
        self.check([], ENDLESS_CARD, (), [], (2, ()))
        self.check([""], PAIR_CARD, (), [], (2, ()))

    def test_a_kind_occurs_at_most_as_often_as_its_count(self):
        self.check(["k"], ("kinds", (("k", 1),)), NAMES, [], (1, (0, 0, 0)))
        self.check(["kl", "lk"], PAIR_CARD, NAMES, [], (2, (0, 1, 1)))
        self.check(["k", "l"], PAIR_CARD, NAMES, [], (2, (0, 0, 0)))
        self.check(["kk"], ("kinds", (("k", 2),)), NAMES, [], (2, (0, 1, 0)))
        self.check(["kkk", "kkl", "klk", "lkk"], ("kinds", (("k", 0), ("l", 1))), NAMES, [], (3, (0, 1, 2)))
        self.check(["kkk", "kkl", "klk", "kll", "lkk", "lkl", "llk"], ("kinds", (("k", 0), ("l", 2))), NAMES, [],
                   (3, (0, 1, 2)))

    def test_kinds_of_the_blocks_in_their_order(self):
        for card in CARDS:
            for cell in cells_over(3):
                blocks = block_count(cell[1])
                wanted = [own for own in itertools.product([kind for kind, _ in card[1]], repeat=blocks)
                          if all(count == 0 or own.count(kind) <= count for kind, count in card[1])]
                self.check(wanted if cell[0] == kinds_size(card) else [], card, NAMES, [], cell)

    def test_literals(self):
        cell = (3, (0, 1, 0))
        self.check(["lk", "lm"], ENDLESS_CARD, NAMES, [of_kind("o", "c", "l")], cell)
        self.check(["mk", "ml", "mm"], ENDLESS_CARD, NAMES, [of_kind("o", "a", "m")], cell)
        self.check(["kk", "km", "mk", "mm"], ENDLESS_CARD, NAMES,
                   [negated(of_kind("o", "a", "l")), negated(of_kind("o", "b", "l"))], cell)
        self.check([], ENDLESS_CARD, NAMES, [of_kind("o", "a", "l"), of_kind("o", "b", "l")], cell)
        self.check([], ENDLESS_CARD, NAMES, [of_kind("o", "a", "k"), of_kind("o", "c", "l")], cell)
        self.check([], ENDLESS_CARD, NAMES, [of_kind("o", "a", "k"), negated(of_kind("o", "c", "k"))], cell)
        self.check(["km"], ENDLESS_CARD, NAMES, [of_kind("o", "a", "k"), of_kind("o", "b", "m")] * 2, cell)


class TruthTest(LookerCase):

    def test_the_block_of_the_name_has_the_kind(self):
        for own in ("kl", "mk", "mm"):
            for name, block in zip(NAMES, (0, 1, 0)):
                for kind in "klm":
                    self.gives(own[block] == kind, kinds_truth, ENDLESS_CARD, NAMES, (3, (0, 1, 0)), tuple(own),
                               ("o", "kind", name, kind))
