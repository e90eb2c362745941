from helper import LookerCase
from onelooker.cards import check_card, check_literal, is_whole, renamed_card
from onelooker.errors import BadCard, BadLiteral, NoOwner
from onelooker.literals import below, equal, negated, of_kind, same, size_at_most, turn, word
from onelooker.names import cells_over

A, B, C = ("a",), ("b",), ("c",)
FA = ("f", A)
ROWS = ("rows", (((1, (0, 0)), ("p", "q")), ((2, (0, 1)), ())))
THEORIES = {"r": ROWS, "k": ("kinds", (("j", 1), ("l", 0))), "o": ("below",), "t": ("ring", 3), "s": ("ring", 2),
            "e": ("terms",)}


def rows_card(*words, cell=(3, ())):
    """A rows card with a row for each tuple of words."""
    return ("rows", tuple(sorted((cell, each) for each in words)))


class WholeTest(LookerCase):

    def test_integers_between_the_bounds(self):
        for value in range(-3, 8):
            self.gives(-1 <= value <= 5, is_whole, value, -1, 5)
        self.gives(False, is_whole, 3, 4, 2)
        self.gives(True, is_whole, 10 ** 50, 0, 10 ** 50)

    def test_other_values(self):
        for value in [True, False, None, "1", 1.0, (1,), [1], {}]:
            self.gives(False, is_whole, value, 0, 5)


class CardTest(LookerCase):

    def refuses_card(self, card, width):
        self.refuses(BadCard, {"value": card}, check_card, card, width)

    def test_cards_without_numbers(self):
        for card in [("below",), ("terms",), ("ring", 2), ("ring", 3)]:
            for width in range(4):
                self.gives(None, check_card, card, width)

    def test_what_is_no_card(self):
        for card in [(), ("above",), "below", ["below"], ("below", 1), ("terms", ()), ("ring",), ("ring", 1),
                     ("ring", 4), ("ring", True), ("ring", "2"), ("ring", 2, 3), ["ring", 2], ("kinds",), ("rows",),
                     ("rows", (((3, ()), ()),), ()), None, True, 2, {}, (["below"],), (("below",),), ("", 2),
                      ("Ring", 2)]:
            self.refuses_card(card, 0)

    def test_kinds(self):
        for counts in [(("b", 0),), (("b", 1),), (("b", 2),), (("b", 1), ("r", 1)), (("b", 0), ("r", 2)),
                       (("a", 0), ("b", 0), ("c", 0)), (("a", 2), ("b", 2), ("c", 0))]:
            for width in range(4):
                self.gives(None, check_card, ("kinds", counts), width)

    def test_wrong_kinds(self):
        for counts in [(), (("b", 3),), (("b", -1),), (("b", True),), (("b", False),), (("b", "1"),), (("B", 1),),
                       ("b", 1), [("b", 1)], (["b", 1],), (("b", 1, 1),), (("b",),), ("b1",), None, ((1, 1),),
                       (("r", 1), ("b", 1)), (("b", 0), ("b", 1)), (("b", 1), ("b", 1)), (("b", 0), ("r", 3)),
                        ((["b"], 1),),
                       (("a", 0), ("b", 0), ("c", 0), ("d", 0))]:
            self.refuses_card(("kinds", counts), 0)

    def test_finite_kinds_add_up_to_one_or_two(self):
        for counts in [(("b", 1), ("r", 2)), (("b", 2), ("r", 2)), (("a", 1), ("b", 1), ("c", 1))]:
            self.refuses_card(("kinds", counts), 0)

    def test_rows(self):
        self.gives(None, check_card, ROWS, 2)
        self.gives(None, check_card, rows_card(()), 0)
        self.gives(None, check_card, rows_card((), ("a",), ("a", "b1"), ("b1",)), 0)
        for width in range(4):
            self.gives(None, check_card, ("rows", tuple((cell, ("w",)) for cell in cells_over(width))), width)

    def test_the_cells_are_over_the_names(self):
        for width in (0, 1, 3):
            self.refuses_card(ROWS, width)

    def test_wrong_rows(self):
        row = ((3, ()), ("w",))
        for rows in [(), [row], (list(row),), (row, row), (((3, ()), ()), ((2, ()), ())), (row, ((3, ()), ())),
                     (((3, ()), ["w"]),), (((3, ()), "w"),), (((3, ()), ("w", "v")),), (((3, ()), ("w", "w")),),
                     (((3, ()), ("W",)),), (((3, ()), (1,)),), (((3, ()), (["w"],)),), (([3, ()], ("w",)),),
                     (((True, ()), ("w",)),), (((4, ()), ("w",)),), ((row, ()),), (((3, ()),),), (row + ((),),),
                     row, None, "rows", (None,)]:
            self.refuses_card(("rows", rows), 0)
        self.refuses_card(("rows", (((3, (0, True)), ()),)), 2)

    def test_at_most_six_words(self):
        six = ("a", "b", "c", "d", "e", "f")
        self.gives(None, check_card, rows_card(six), 0)
        self.gives(None, check_card, rows_card(six[:4], six[2:]), 0)
        self.refuses_card(rows_card((*six, "g")), 0)
        self.refuses_card(rows_card(six[:4], six[3:], ("g",)), 0)

    def test_at_most_64_rows(self):
        words = ("a", "b", "c", "d", "e", "f")
        subsets = [tuple(text for at, text in enumerate(words) if number >> at & 1) for number in range(64)]
        rows = rows_card(*subsets)[1]
        self.gives(None, check_card, ("rows", rows), 0)
        self.refuses_card(("rows", (((1, ()), ()), *rows)), 0)


class RenamedCardTest(LookerCase):

    def test_cards_without_cells_stay(self):
        for card in [("below",), ("terms",), ("ring", 2), ("kinds", (("a", 1), ("b", 1)))]:
            self.gives(card, renamed_card, card, ("a", "b"), {"a": "z"})

    def test_rows_are_rearranged_and_sorted_again(self):
        card = ("rows", (((2, (0, 0, 1)), ("a",)), ((2, (0, 1, 1)), ("b",)), ((3, (0, 1, 2)), ())))
        wanted = ("rows", (((2, (0, 0, 1)), ("b",)), ((2, (0, 1, 1)), ("a",)), ((3, (0, 1, 2)), ())))
        self.gives(wanted, renamed_card, card, ("a", "b", "c"), {"a": "c", "c": "a"})
        self.gives(card, renamed_card, wanted, ("a", "b", "c"), {"a": "c", "c": "a"})
        self.gives(card, renamed_card, card, ("a", "b", "c"), {"w": "a"})

    def test_words_stay(self):
        self.gives(rows_card(("a", "b"), cell=(1, (0,))), renamed_card, rows_card(("a", "b"), cell=(1, (0,))),
                   ("a",), {"a": "b", "b": "c"})


class CheckLiteralTest(LookerCase):

    names = ("a", "b", "c")

    def accepts(self, literal):
        self.gives(None, check_literal, literal, self.names, THEORIES)
        self.gives(None, check_literal, negated(literal), self.names, THEORIES)

    def refuses_literal(self, literal, names=names):
        self.refuses(BadLiteral, {"value": literal}, check_literal, literal, names, THEORIES)

    def refuses_atom(self, atom, names=names):
        self.refuses_literal((atom, True), names)
        self.refuses_literal((atom, False), names)

    def test_right_literals(self):
        for literal in [same("a", "b"), same("b", "c"), size_at_most(1), size_at_most(2), word("r", "p"),
                        word("r", "z9"), of_kind("k", "a", "j"), of_kind("k", "c", "l"), below("o", "a", "b"),
                        below("o", "b", "a"), below("o", "a", "a"), turn("t", "a", "b", 0), turn("t", "b", "a", 2),
                        turn("t", "a", "a", 2), turn("s", "a", "b", 1), equal("e", A, FA), equal("e", FA, ("f", B)),
                        equal("e", FA, ("f", A, C)), equal("e", A, ("f", ("f", ("f", B))))]:
            self.accepts(literal)

    def test_what_is_no_pair_of_a_tuple_and_a_truth_value(self):
        atom = ("", "size", 1)
        for value in [[atom, True], (list(atom), True), (atom,), (atom, True, True), (), (atom, 1), (atom, 0),
                      (atom, None), (atom, "True"), atom, None, True, 1, "size <= 1", (None, True), ("ab", True)]:
            self.refuses_literal(value)

    def test_atoms_have_two_items_and_the_first_one_is_a_string(self):
        for atom in [(), ("",), ("x",), ("o",), (1, "size", 1), (None, "size", 1), (True, 1),
                     (["o"], "below", "a", "b"), (("o",), "below")]:
            self.refuses_atom(atom)

    def test_an_owner_without_theory(self):
        for owner in ["x", "O", " ", "oo", "o1"]:
            for atom in [(owner, "below", "a", "b"), (owner, "size", 1), (owner, None)]:
                self.refuses(NoOwner, {"owner": owner}, check_literal, (atom, True), self.names, THEORIES)
        self.refuses(NoOwner, {"owner": "o"}, check_literal, below("o", "a", "b"), self.names, {})

    def test_the_pair_is_looked_at_before_the_owner(self):
        for value in [(("x", "below", "a", "b"), 1), [("x", "below", "a", "b"), True], (("x",), True)]:
            self.refuses_literal(value)

    def test_wrong_same_atoms(self):
        for atom in [("", "same", "b", "a"), ("", "same", "a", "a"), ("", "same", "a"), ("", "same", "a", "b", "c"),
                     ("", "same", "a", "d"), ("", "same", "A", "b"), ("", "same", A, B), ("", "same", ["a"], "b"),
                     ("", "same", 0, 1), ("", "same"), ("", "Same", "a", "b")]:
            self.refuses_atom(atom)
        self.refuses_atom(("", "same", "a", "b"), ("a", "c"))
        self.refuses_atom(("", "same", "a", "b"), ())

    def test_wrong_size_atoms(self):
        for atom in [("", "size", 0), ("", "size", 3), ("", "size", True), ("", "size", False), ("", "size", "1"),
                     ("", "size"), ("", "size", 1, 2), ("", "sizes", 1), ("", 1, 1), ("", ["size"], 1),
                     ("", "size", None)]:
            self.refuses_atom(atom)

    def test_wrong_word_atoms(self):
        for atom in [("r", "word"), ("r", "word", "P"), ("r", "word", "p", "q"), ("r", "word", 1), ("r", "word", ["p"]),
                     ("r", "word", ""), ("r", "word", "p\n"), ("r", "kind", "p"), ("o", "word", "p"),
                     ("", "word", "p")]:
            self.refuses_atom(atom)

    def test_wrong_kind_atoms(self):
        for atom in [("k", "kind", "a", "m"), ("k", "kind", "d", "j"), ("k", "kind", "a"), ("k", "kind", "a", "j", "l"),
                     ("k", "kind", ["a"], "j"), ("k", "kind", "a", ["j"]), ("k", "below", "a", "j"), ("k", "kind"),
                     ("o", "kind", "a", "b"), ("k", "kind", "a", 1), ("", "kind", "a", "j")]:
            self.refuses_atom(atom)

    def test_wrong_below_atoms(self):
        for atom in [("o", "below", "a"), ("o", "below", "a", "d"), ("o", "below", "d", "a"),
                     ("o", "below", "a", "b", "c"),
                     ("o", "below", A, B), ("o", "Below", "a", "b"), ("o", "below", "a", ["b"]),
                     ("r", "below", "a", "b"),
                     ("", "below", "a", "b"), ("o", "turn", "a", "b", 1), ("e", "below", "a", "b")]:
            self.refuses_atom(atom)

    def test_wrong_turn_atoms(self):
        for atom in [("t", "turn", "a", "b", 3), ("s", "turn", "a", "b", 2), ("t", "turn", "a", "b", -1),
                     ("t", "turn", "a", "b", True), ("t", "turn", "a", "b", False), ("t", "turn", "a", "b", "1"),
                     ("t", "turn", "a", "b"), ("t", "turn", "a", "b", 1, 1), ("t", "turn", "d", "b", 1),
                     ("t", "turn", "a", "d", 1), ("t", "below", "a", "b"), ("t", "turns", "a", "b", 1),
                     ("o", "turn", "a", "b", 1), ("", "turn", "a", "b", 1)]:
            self.refuses_atom(atom)

    def test_wrong_equal_atoms(self):
        deep = ("f", ("f", ("f", ("f", A))))
        for atom in [("e", "equal", FA, A), ("e", "equal", FA, FA), ("e", "equal", A, B), ("e", "equal", A, A),
                     ("e", "equal", A), ("e", "equal", A, FA, FA), ("e", "equal", "a", FA),
                     ("e", "equal", A, ("f", ("d",))),
                     ("e", "equal", ("d",), FA), ("e", "equal", A, deep), ("e", "equal", A, ("f", A, B, C)),
                     ("e", "equal", A, ["f", A]), ("e", "equals", A, FA), ("o", "equal", A, FA), ("", "equal", A, FA)]:
            self.refuses_atom(atom)
        self.refuses_atom(("e", "equal", A, FA), ("b",))
