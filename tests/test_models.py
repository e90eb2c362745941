import random

from helper import LookerCase
from onelooker.deciders import fits, true_in
from onelooker.errors import BadLiteral, NoOwner
from onelooker.literals import below, clause_of, equal, negated, of_kind, same, shared_literals, size_at_most, turn, word
from onelooker.models import Model
from onelooker.names import cells_over
from onelooker.problems import Problem
from slow import every_atom, random_problem, shared_truth, terms_over

NAMES = ("a", "b", "c")
CELL = (3, (0, 1, 0))
FA, FB, FC = ("f", ("a",)), ("f", ("b",)), ("f", ("c",))
CARDS = {"t": ("terms",), "r": ("rows", ((CELL, ("p",)), (CELL, ("q", "r")))), "k": ("kinds", (("k", 0), ("l", 1))),
         "o": ("below",), "u": ("ring", 3)}
PARTS = {"t": ((FA, 1), (FB, 2)), "r": (1,), "k": ("k", "l"), "o": ((0, 1),), "u": (1, 0)}
MODEL = Model(NAMES, CARDS, CELL, PARTS)
HOLDS = [same("a", "c"), negated(same("a", "b")), negated(size_at_most(2)), equal("t", FA, ("b",)), equal("t", FA, FC),
         negated(equal("t", FA, FB)), word("r", "q"), word("r", "r"), negated(word("r", "p")), negated(word("r", "z")),
         of_kind("k", "b", "l"), negated(of_kind("k", "c", "l")), below("o", "a", "b"), below("o", "c", "b"),
         negated(below("o", "b", "a")), negated(below("o", "a", "a")), turn("u", "a", "b", 2), turn("u", "b", "c", 1),
         turn("u", "a", "a", 0), negated(turn("u", "a", "a", 1))]
WRONG = [(NoOwner, "owner", "x", word("x", "w")), (BadLiteral, "value", below("o", "a", "d"), below("o", "a", "d")),
         (BadLiteral, "value", None, None), (BadLiteral, "value", word("o", "w"), word("o", "w")),
         (BadLiteral, "value", (("", "size", True), True), (("", "size", True), True)),
         (BadLiteral, "value", (("", "same", "b", "a"), True), (("", "same", "b", "a"), True)),
         (BadLiteral, "value", same("a", "b")[0], same("a", "b")[0])]


class ModelTest(LookerCase):

    def test_attributes(self):
        self.assertEqual(MODEL.names, NAMES)
        self.assertEqual(MODEL.cell, CELL)
        self.assertEqual(MODEL.owners, ("k", "o", "r", "t", "u"))
        self.assertEqual(Model((), {}, (1, ()), {}).owners, ())

    def test_cards_and_own_parts(self):
        for owner in CARDS:
            self.assertEqual(MODEL.card(owner), CARDS[owner])
            self.assertEqual(MODEL.own_part(owner), PARTS[owner])
        for owner in ("x", "", "a"):
            self.refuses(NoOwner, {"owner": owner}, MODEL.card, owner)
            self.refuses(NoOwner, {"owner": owner}, MODEL.own_part, owner)

    def test_theories(self):
        found = MODEL.theories()
        self.assertEqual(list(found.items()), sorted(CARDS.items()))
        found.clear()
        self.assertEqual(MODEL.theories(), CARDS)

    def test_the_arguments_stay_and_may_change_later(self):
        cards, parts = dict(CARDS), dict(PARTS)
        model = Model(NAMES, cards, CELL, parts)
        self.assertEqual((cards, parts), (CARDS, PARTS))
        cards["o"] = ("ring", 2)
        del parts["o"]
        del cards["u"]
        self.assertEqual(model, MODEL)
        self.assertEqual(model.own_part("o"), ((0, 1),))

    def test_nothing_is_checked(self):
        model = Model(("b", "a"), {"O": None}, "cell", {"O": [1], "x": 2})
        self.assertEqual((model.names, model.cell, model.owners), (("b", "a"), "cell", ("O",)))
        self.assertEqual((model.card("O"), model.own_part("O")), (None, [1]))

    def test_equality(self):
        self.assertEqual(MODEL, Model(NAMES, dict(reversed(CARDS.items())), CELL, dict(reversed(PARTS.items()))))
        self.assertFalse(MODEL != Model(NAMES, CARDS, CELL, PARTS))
        without = {owner: card for owner, card in CARDS.items() if owner != "u"}
        for other in [Model(("a", "b", "d"), CARDS, CELL, PARTS), Model(NAMES, CARDS, (3, (0, 1, 2)), PARTS),
                      Model(NAMES, CARDS, CELL, {**PARTS, "u": (1, 1)}),
                      Model(NAMES, {**CARDS, "u": ("ring", 2)}, CELL, PARTS), Model(NAMES, without, CELL, PARTS),
                      None, NAMES, CELL]:
            self.assertFalse(MODEL == other)
            self.assertTrue(MODEL != other)


class HoldsTest(LookerCase):

    def test_all_kinds_of_cards(self):
        for literal in HOLDS:
            self.gives(True, MODEL.holds, literal)
            self.gives(False, MODEL.holds, negated(literal))
            self.assertIs(MODEL(literal), True)
            self.assertIs(MODEL(negated(literal)), False)

    def test_no_theories(self):
        for cell in cells_over(2):
            model = Model(("a", "b"), {}, cell, {})
            for literal in shared_literals(("a", "b")):
                self.assertIs(model.holds(literal), shared_truth(("a", "b"), cell, literal))

    def test_wrong_literals(self):
        for error, name, told, literal in WRONG:
            self.refuses(error, {name: told}, MODEL.holds, literal)
            self.refuses(error, {name: told}, MODEL, literal)
        self.refuses(NoOwner, {"owner": "o"}, Model(NAMES, {}, CELL, {}), below("o", "a", "b"))

    def test_what_holds_is_what_is_true_in_the_own_part(self):
        source = random.Random(150)
        for _ in range(100):
            problem = random_problem(source)
            for cell in cells_over(len(problem.names)):
                parts = {owner: fits(problem.card(owner), problem.names, [], cell) for owner in problem.owners}
                if None not in parts.values():
                    model = Model(problem.names, problem.theories(), cell, parts)
                    for owner in problem.owners:
                        card = problem.card(owner)
                        for atom in every_atom(owner, card, problem.names, terms_over(problem.names, "f", 2))[:20]:
                            self.assertIs(model.holds((atom, True)), true_in(card, problem.names, cell, parts[owner],
                                                                             (atom, True)))


class MeetsTest(LookerCase):

    def test_one_literal_is_enough(self):
        self.gives(False, MODEL.meets, ())
        for literal in HOLDS:
            self.gives(True, MODEL.meets, (literal,))
            self.gives(False, MODEL.meets, (negated(literal),))
            self.gives(True, MODEL.meets, (literal, negated(literal)))
        self.gives(True, MODEL.meets, tuple(negated(literal) for literal in HOLDS[1:]) + (HOLDS[0],))
        self.gives(False, MODEL.meets, clause_of([negated(literal) for literal in HOLDS]))

    def test_a_wrong_literal_behind_one_that_holds(self):
        for error, name, told, literal in WRONG:
            self.refuses(error, {name: told}, MODEL.meets, (HOLDS[0], literal))
            self.refuses(error, {name: told}, MODEL.meets, (literal, HOLDS[0], None))
            self.refuses(error, {name: told}, MODEL.meets, (negated(HOLDS[0]), literal, word("y", "w")))


class SatisfiesTest(LookerCase):

    def test_all_clauses_hold(self):
        problem = Problem(NAMES, {"o": CARDS["o"]}, {4: (negated(HOLDS[0]), below("o", "a", "b")), 9: (HOLDS[1],)})
        self.gives(True, MODEL.satisfies, problem)
        self.gives(False, MODEL.satisfies, problem.put(2, (below("o", "b", "a"),)))
        self.gives(True, MODEL.satisfies, problem.put(2, (below("o", "b", "a"), HOLDS[0])))

    def test_names_and_cards(self):
        self.gives(True, MODEL.satisfies, Problem(NAMES, {}, {}))
        self.gives(False, MODEL.satisfies, Problem(("a", "b"), {}, {}))
        self.gives(False, MODEL.satisfies, Problem(("a", "b", "d"), {}, {}))
        self.gives(True, MODEL.satisfies, Problem(NAMES, {"u": ("ring", 3), "o": ("below",)}, {}))
        self.gives(False, MODEL.satisfies, Problem(NAMES, {"u": ("ring", 2)}, {}))
        self.gives(False, MODEL.satisfies, Problem(NAMES, {"x": ("below",)}, {}))
        self.gives(False, MODEL.satisfies, Problem(NAMES, {"x": ("below",)}, {1: (below("x", "a", "b"),)}))
        self.gives(False, MODEL.satisfies, Problem(NAMES, {"r": ("below",)}, {1: (below("r", "a", "b"),)}))
        self.gives(True, Model((), {}, (2, ()), {}).satisfies, Problem((), {}, {1: (size_at_most(2),)}))
        self.gives(False, Model((), {}, (3, ()), {}).satisfies, Problem((), {}, {1: (size_at_most(2),)}))
