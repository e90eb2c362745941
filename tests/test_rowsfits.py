from helper import LookerCase
from onelooker.literals import negated, word
from onelooker.names import cells_over
from onelooker.rowsfits import rows_parts, rows_truth

NAMES = ("a", "b")
CARD = ("rows", (((1, (0, 0)), ("p",)), ((2, (0, 1)), ()), ((2, (0, 1)), ("p",)), ((2, (0, 1)), ("p", "q")),
                 ((2, (0, 1)), ("q", "r")), ((3, (0, 1)), ("r",))))
P, Q, R, Z = [word("o", text) for text in ("p", "q", "r", "z")]


class PartsTest(LookerCase):

    def check(self, indexes, literals, cell, card=CARD, names=NAMES):
        for given in (list(literals), tuple(literals)):
            self.gives([(index,) for index in indexes], rows_parts, card, names, given, cell)

    def test_no_row_one_row_and_several_rows_at_the_cell(self):
        self.check([], [], (2, (0, 0)))
        self.check([], [], (3, (0, 0)))
        self.check([0], [], (1, (0, 0)))
        self.check([1, 2, 3, 4], [], (2, (0, 1)))
        self.check([5], [], (3, (0, 1)))

    def test_all_rows_at_the_cell(self):
        card = ("rows", (((3, ()), ()), ((3, ()), ("p",)), ((3, ()), ("q",))))
        self.check([0, 1, 2], [], (3, ()), card, ())
        self.check([1], [P], (3, ()), card, ())
        self.check([], [], (1, ()), card, ())

    def test_literals(self):
        cell = (2, (0, 1))
        self.check([2, 3], [P], cell)
        self.check([1, 4], [negated(P)], cell)
        self.check([3], [Q, P], cell)
        self.check([2], [P, negated(Q)], cell)
        self.check([], [P, R], cell)
        self.check([3], [P, Q, P, Q], cell)
        self.check([], [P, negated(P)], cell)

    def test_a_word_that_is_in_no_row_never_holds(self):
        self.check([], [Z], (2, (0, 1)))
        self.check([1, 2, 3, 4], [negated(Z)], (2, (0, 1)))

    def test_one_name(self):
        card = ("rows", (((1, (0,)), ("p",)), ((3, (0,)), ("p",))))
        self.check([1], [P], (3, (0,)), card, ("a",))
        self.check([], [negated(P)], (3, (0,)), card, ("a",))
        self.check([], [], (2, (0,)), card, ("a",))


class TruthTest(LookerCase):

    def test_the_row_has_the_word(self):
        for index, (cell, words) in enumerate(CARD[1]):
            for text in ("p", "q", "r", "z"):
                self.gives(text in words, rows_truth, CARD, NAMES, cell, (index,), ("o", "word", text))

    def test_parts_are_those_in_which_the_literals_hold(self):
        for cell in cells_over(2):
            for literal in (P, Q, R, Z, negated(P), negated(Q), negated(Z)):
                every = rows_parts(CARD, NAMES, [], cell)
                self.assertEqual(rows_parts(CARD, NAMES, [literal], cell), [
                    own for own in every if rows_truth(CARD, NAMES, cell, own, literal[0]) == literal[1]])
