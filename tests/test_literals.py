import itertools

from helper import LookerCase
from onelooker.errors import BadClause, BadLiteral
from onelooker.literals import (atom_names, below, clause, clause_of, equal, holds_at, negated, negations, of_kind,
                                owner_of, renamed_literal, same, shared_literals, size_at_most, turn, word)
from onelooker.names import cells_over

A, B = ("a",), ("b",)
FA, FB = ("f", A), ("f", B)
WORDS = [word("o", f"w{number}") for number in range(10)]


class MakingTest(LookerCase):

    def test_same(self):
        self.gives((("", "same", "a", "b"), True), same, "a", "b")
        self.gives((("", "same", "a", "b"), True), same, "b", "a")
        self.gives((("", "same", "a10", "a2"), True), same, "a2", "a10")
        self.refuses(BadLiteral, {"value": ("a", "a")}, same, "a", "a")

    def test_size_at_most(self):
        self.gives((("", "size", 1), True), size_at_most, 1)
        self.gives((("", "size", 2), True), size_at_most, 2)

    def test_own_literals(self):
        self.gives((("o", "word", "w"), True), word, "o", "w")
        self.gives((("o", "kind", "a", "k"), True), of_kind, "o", "a", "k")
        self.gives((("o", "below", "b", "a"), True), below, "o", "b", "a")
        self.gives((("o", "below", "a", "a"), True), below, "o", "a", "a")
        self.gives((("o", "turn", "b", "a", 2), True), turn, "o", "b", "a", 2)

    def test_equal(self):
        self.gives((("o", "equal", A, FA), True), equal, "o", A, FA)
        self.gives((("o", "equal", A, FA), True), equal, "o", FA, A)
        self.gives((("o", "equal", FA, FB), True), equal, "o", FB, FA)
        self.gives((("o", "equal", FA, ("f", A, A)), True), equal, "o", ("f", A, A), FA)

    def test_terms_are_compared_as_tuples_and_not_by_rank(self):
        self.gives((("o", "equal", ("a", FB), FA), True), equal, "o", FA, ("a", FB))
        self.gives((("o", "equal", FA, ("z",)), True), equal, "o", ("z",), FA)

    def test_terms_that_make_no_literal(self):
        self.refuses(BadLiteral, {"value": (FA, FA)}, equal, "o", FA, FA)
        self.refuses(BadLiteral, {"value": (A, A)}, equal, "o", A, A)
        self.refuses(BadLiteral, {"value": (A, B)}, equal, "o", A, B)
        self.refuses(BadLiteral, {"value": (B, A)}, equal, "o", B, A)


class PartsTest(LookerCase):

    def test_negated(self):
        self.gives((("", "size", 1), False), negated, size_at_most(1))
        self.gives(size_at_most(1), negated, (("", "size", 1), False))

    def test_owner_of(self):
        self.gives("", owner_of, same("a", "b"))
        self.gives("", owner_of, negated(size_at_most(2)))
        self.gives("o12", owner_of, word("o12", "w"))

    def test_atom_names(self):
        for literal, names in [(same("a", "b"), ("a", "b")), (size_at_most(1), ()), (word("o", "w"), ()),
                               (of_kind("o", "b", "a"), ("b",)), (below("o", "b", "a"), ("a", "b")),
                               (below("o", "b", "b"), ("b",)), (turn("o", "b", "a", 1), ("a", "b")),
                               (turn("o", "c", "c", 0), ("c",)), (equal("o", ("c", B), ("f", A, B)), ("a", "b")),
                               (equal("o", ("f", ("c",), B), ("g", A)), ("a", "b", "c")),
                               (equal("o", A, ("g", B)), ("a", "b")), (turn("o", "a9", "a10", 1), ("a10", "a9"))]:
            self.gives(names, atom_names, literal[0])


class ClauseTest(LookerCase):

    def test_literals_are_sorted_and_different(self):
        self.gives((), clause)
        self.gives((same("a", "b"),), clause, same("b", "a"), same("a", "b"))
        self.gives((negated(size_at_most(1)), size_at_most(1), word("o", "w")), clause,
                   word("o", "w"), size_at_most(1), negated(size_at_most(1)), word("o", "w"))

    def test_at_most_eight_different_literals(self):
        self.gives(tuple(WORDS[:8]), clause, *WORDS[7::-1])
        self.gives(tuple(WORDS[:8]), clause, *WORDS[:8], *WORDS[:8])
        told = (WORDS[8], *WORDS[:8], WORDS[0])
        self.refuses(BadClause, {"value": told}, clause, *told)

    def test_clause_of_any_number(self):
        self.gives((), clause_of, [])
        self.gives(tuple(WORDS), clause_of, WORDS[::-1] + WORDS)
        self.gives((WORDS[0], WORDS[1]), clause_of, (WORDS[1], WORDS[0], WORDS[1]))

    def test_literals_of_all_forms_are_sorted(self):
        literals = [same("a", "b"), size_at_most(2), word("r", "w"), of_kind("k", "a", "b"), below("o", "a", "b"),
                    turn("t", "a", "b", 1), equal("e", A, FA), equal("e", FA, ("f", A, B)), equal("e", FA, FB)]
        both = literals + [negated(literal) for literal in literals]
        self.gives(tuple(sorted(both)), clause_of, both[::-1])

    def test_negations(self):
        self.gives((), negations, [])
        self.gives((negated(WORDS[0]), WORDS[1], negated(WORDS[2])), negations,
                   [WORDS[2], negated(WORDS[1]), WORDS[0], WORDS[2]])
        self.gives(tuple(negated(literal) for literal in WORDS), negations, tuple(WORDS))


class SharedTest(LookerCase):

    def test_same_holds_if_the_marks_are_equal(self):
        names = ("a", "b", "c")
        self.gives(True, holds_at, names, same("a", "c"), (2, (0, 1, 0)))
        self.gives(False, holds_at, names, same("a", "b"), (2, (0, 1, 0)))
        self.gives(True, holds_at, names, negated(same("b", "c")), (2, (0, 1, 0)))
        self.gives(False, holds_at, names, negated(same("a", "c")), (2, (0, 1, 0)))

    def test_size_holds_if_the_size_is_not_greater(self):
        for size, limit in itertools.product((1, 2, 3), (1, 2)):
            self.gives(size <= limit, holds_at, (), size_at_most(limit), (size, ()))
            self.gives(size > limit, holds_at, (), negated(size_at_most(limit)), (size, ()))

    def test_shared_literals(self):
        sizes = [negated(size_at_most(1)), size_at_most(1), negated(size_at_most(2)), size_at_most(2)]
        self.gives(sizes, shared_literals, ())
        self.gives(sizes, shared_literals, ("a",))
        self.gives([negated(same("a", "b")), same("a", "b"), *sizes], shared_literals, ("a", "b"))
        three = shared_literals(("a", "b", "c"))
        self.assertEqual(three, sorted(three))
        self.assertEqual(len(three), 10)

    def test_exactly_one_of_two_negations_holds(self):
        names = ("a", "b", "c")
        for cell, literal in itertools.product(cells_over(3), shared_literals(names)):
            self.assertNotEqual(holds_at(names, literal, cell), holds_at(names, negated(literal), cell))


class RenamingTest(LookerCase):

    def test_each_form(self):
        swap = {"a": "b", "b": "a", "o": "p", "w": "v", "k": "j", "f": "g"}
        for old, new in [(same("a", "b"), same("a", "b")), (same("b", "c"), same("a", "c")),
                         (size_at_most(1), size_at_most(1)), (word("o", "w"), word("o", "w")),
                         (word("a", "b"), word("a", "b")), (of_kind("o", "a", "k"), of_kind("o", "b", "k")),
                         (of_kind("a", "a", "a"), of_kind("a", "b", "a")), (below("o", "a", "c"), below("o", "b", "c")),
                         (below("o", "a", "b"), below("o", "b", "a")),
                         (turn("o", "a", "b", 2), turn("o", "b", "a", 2)), (equal("o", A, FA), equal("o", B, FB)),
                         (equal("a", ("a", A), ("a", B)), equal("a", ("a", A), ("a", B)))]:
            self.gives(new, renamed_literal, old, swap)
            self.gives(negated(new), renamed_literal, negated(old), swap)

    def test_names_and_terms_are_put_in_order_again(self):
        self.gives((("", "same", "b", "z"), False), renamed_literal, (("", "same", "a", "b"), False), {"a": "z"})
        self.gives((("o", "equal", FA, ("z",)), True), renamed_literal, equal("o", ("c",), FA), {"c": "z"})
        self.gives((("o", "equal", FB, ("f", ("z",))), True), renamed_literal, equal("o", FA, FB), {"a": "z"})

    def test_entries_for_other_names_have_no_effect(self):
        for literal in [same("a", "b"), of_kind("o", "a", "x"), below("o", "a", "b"), turn("o", "b", "a", 1),
                        equal("o", A, FB)]:
            self.gives(literal, renamed_literal, literal, {"x": "a", "o": "q", "f": "h"})
            self.gives(literal, renamed_literal, literal, {})
