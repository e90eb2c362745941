import random

from helper import LookerCase
from onelooker.asrows import Wording, rows_card, rows_literal, rows_problem
from onelooker.cards import check_card
from onelooker.convexity import cards_alike
from onelooker.deciders import cells_of
from onelooker.errors import BadCard, NoOwner, TooMany
from onelooker.literals import below, equal, negated, of_kind, owner_of, same, size_at_most, turn, word
from onelooker.problems import Problem
from onelooker.standing import standing
from onelooker.typetables import own_atoms, type_rows
from slow import all_cells, every_atom, random_card, random_problem, slow_fits, slow_picks

EVERY = ("a", "b", "c")
AB, BA = below("o", "a", "b"), below("o", "b", "a")


class WordingTest(LookerCase):

    def test_attributes_and_words(self):
        sources = [AB[0], BA[0]]
        wording = Wording("o", sources)
        sources.clear()
        self.assertEqual((wording.owner, wording.sources, wording.letter), ("o", (AB[0], BA[0]), "w"))
        self.assertEqual([wording[AB[0]], wording[BA[0]]], ["w0", "w1"])
        self.assertEqual(wording[below("o", "a", "a")[0]], "z")
        self.assertEqual(wording[("", "size", 1)], "z")
        self.assertEqual(len(wording), 2)
        self.assertEqual(list(wording), [AB[0], BA[0]])
        self.assertTrue(AB[0] in wording and BA[0] in wording)
        self.assertFalse(below("o", "a", "a")[0] in wording)

    def test_the_order_and_the_letter_are_those_given(self):
        wording = Wording("q", (BA[0], AB[0]), letter="x")
        self.assertEqual((wording.owner, wording.letter, wording[AB[0]], wording[BA[0]]), ("q", "x", "x1", "x0"))
        self.assertEqual(list(wording), [BA[0], AB[0]])

    def test_literals(self):
        wording = Wording("q", (AB[0], BA[0]), letter="y")
        self.gives(word("q", "y0"), wording, AB)
        self.gives(negated(word("q", "y1")), wording, negated(BA))
        self.gives(negated(word("q", "z")), wording, negated(below("o", "a", "a")))

    def test_the_first_a_middle_and_the_last_atom(self):
        sources = [below("o", first, second)[0] for first in EVERY for second in EVERY if first != second]
        wording = Wording("o", tuple(sources))
        self.assertEqual([wording[sources[place]] for place in (0, 2, 5)], ["w0", "w2", "w5"])
        self.assertEqual([wording[atom] for atom in wording], ["w0", "w1", "w2", "w3", "w4", "w5"])
        self.assertEqual([wording[below("o", name, name)[0]] for name in EVERY], ["z", "z", "z"])
        many = Wording("o", tuple([word("o", f"p{place}")[0] for place in range(12)]), letter="q")
        self.assertEqual([many[atom] for atom in many], [f"q{place}" for place in range(12)])

    def test_a_value_that_is_no_atom_of_the_sources(self):
        wording = Wording("o", (AB[0], BA[0]))
        for value in (AB, [AB[0]], list(AB[0]), below("p", "a", "b")[0], "w0", 0, None, ()):
            self.assertEqual(wording[value], "z")
            self.assertFalse(value in wording)

    def test_no_atoms(self):
        wording = Wording("o", [])
        self.assertEqual((len(wording), list(wording), wording.sources, wording[AB[0]]), (0, [], (), "z"))
        self.assertEqual([Wording("o", sources, letter="x")[atom] for sources in ([], ()) for atom in (AB[0], None)],
                         ["z"] * 4)
        self.gives(word("o", "z"), wording, AB)

    def test_of_card(self):
        for card in (("below",), ("ring", 3), ("kinds", (("k", 0), ("l", 0), ("m", 2))), ("rows", (((1, (0, 0, 0)), ("p",)),))):
            wording = Wording.of_card("o", card, EVERY)
            self.assertIs(type(wording), Wording)
            self.assertEqual((wording.owner, wording.letter), ("o", "w"))
            self.assertEqual(list(wording), own_atoms("o", card, EVERY))
        self.refuses(BadCard, {"value": ("terms",)}, Wording.of_card, "o", ("terms",), EVERY)


class CardTest(LookerCase):

    def test_rows_stay(self):
        card = ("rows", (((1, (0,)), ("p", "q")), ((3, (0,)), ())))
        self.gives(card, rows_card, "o", card, ("a",))

    def test_small_cards(self):
        self.gives(("rows", (((1, ()), ()), ((2, ()), ()), ((3, ()), ()))), rows_card, "o", ("below",), ())
        self.gives(("rows", (((2, (0,)), ("w0",)),)), rows_card, "o", ("kinds", (("k", 2),)), ("a",))
        self.gives(("rows", (((2, (0,)), ("w0",)), ((2, (0,)), ("w1",)))), rows_card, "o",
                   ("kinds", (("k", 1), ("l", 1))), ("a",))
        self.gives(("rows", (((1, (0, 0)), ()), ((2, (0, 0)), ()), ((2, (0, 1)), ()), ((2, (0, 1)), ("w0",)),
                             ((2, (0, 1)), ("w1",)), ((3, (0, 0)), ()), ((3, (0, 1)), ()), ((3, (0, 1)), ("w0",)),
                             ((3, (0, 1)), ("w1",)))), rows_card, "o", ("below",), ("a", "b"))

    def test_the_rows_are_those_of_the_table_and_the_family_stays(self):
        source = random.Random(210)
        seen = 0
        for _ in range(150):
            names = EVERY[:source.randint(0, 3)]
            card = random_card(source, len(names), ("kinds", "below", "ring"))
            atoms = own_atoms("o", card, names)
            if len(atoms) <= 6:
                found = rows_card("o", card, names)
                check_card(found, len(names))
                self.assertEqual(list(found[1]), [(cell, tuple(f"w{atoms.index(atom)}" for atom in held))
                                                  for cell, held in type_rows("o", card, names)])
                self.assertTrue(cards_alike("o", card, found, names))
                seen += 1
        self.assertTrue(seen > 80, seen)

    def test_terms(self):
        for names in ((), EVERY):
            self.refuses(BadCard, {"value": ("terms",)}, rows_card, "o", ("terms",), names)

    def test_six_and_seven_own_atoms(self):
        self.assertEqual(len(own_atoms("o", ("below",), EVERY)), 6)
        self.assertEqual(len({text for _, words in rows_card("o", ("below",), EVERY)[1] for text in words}), 6)
        two = ("kinds", (("k", 0), ("l", 0)))
        self.assertEqual(len(own_atoms("o", two, EVERY)), 6)
        rows_card("o", two, EVERY)
        for card in (("ring", 3), ("kinds", (("k", 0), ("l", 0), ("m", 0)))):
            self.assertEqual(len(own_atoms("o", card, EVERY)), 9)
            self.refuses(TooMany, {"what": "words"}, rows_card, "o", card, EVERY)
        self.assertEqual(len(rows_card("o", ("kinds", (("k", 0), ("l", 0), ("m", 0))), ("a", "b"))[1]), 12)


class LiteralTest(LookerCase):

    def test_own_atoms(self):
        self.gives(word("o", "w0"), rows_literal, "o", ("below",), ("a", "b"), AB)
        self.gives(negated(word("o", "w1")), rows_literal, "o", ("below",), ("a", "b"), negated(BA))
        self.gives(word("o", "w5"), rows_literal, "o", ("kinds", (("k", 0), ("l", 1))), EVERY, of_kind("o", "c", "l"))
        self.gives(word("o", "w4"), rows_literal, "o", ("ring", 3), EVERY, turn("o", "a", "c", 1))

    def test_more_than_six_own_atoms(self):
        self.gives(word("o", "w8"), rows_literal, "o", ("ring", 3), EVERY, turn("o", "b", "c", 2))
        card = ("kinds", (("k", 0), ("l", 0), ("m", 0)))
        self.gives(negated(word("o", "w8")), rows_literal, "o", card, EVERY, negated(of_kind("o", "c", "m")))

    def test_turns_to_an_earlier_name(self):
        for steps, back in ((0, 0), (1, 2), (2, 1)):
            for sign in (False, True):
                literal = (turn("o", "b", "a", steps)[0], sign)
                wanted = (word("o", f"w{back}")[0], sign)
                self.gives(wanted, rows_literal, "o", ("ring", 3), ("a", "b"), literal)
        self.gives(word("o", "w1"), rows_literal, "o", ("ring", 2), ("a", "b"), turn("o", "b", "a", 1))
        self.gives(word("o", "w0"), rows_literal, "o", ("ring", 2), ("a", "b"), turn("o", "b", "a", 0))

    def test_equal_names(self):
        never = word("o", "z")
        self.gives(negated(never), rows_literal, "o", ("ring", 3), ("a",), turn("o", "a", "a", 0))
        self.gives(never, rows_literal, "o", ("ring", 3), ("a",), negated(turn("o", "a", "a", 0)))
        self.gives(never, rows_literal, "o", ("ring", 3), ("a",), turn("o", "a", "a", 2))
        self.gives(negated(never), rows_literal, "o", ("ring", 2), ("a",), negated(turn("o", "a", "a", 1)))
        self.gives(never, rows_literal, "o", ("below",), ("a",), below("o", "a", "a"))
        self.gives(negated(never), rows_literal, "o", ("below",), ("a",), negated(below("o", "a", "a")))

    def test_literals_that_stay(self):
        for literal in (same("a", "b"), negated(size_at_most(2)), below("q", "a", "a"), turn("q", "b", "a", 1),
                        negated(equal("q", ("f", ("a",)), ("a",)))):
            self.gives(literal, rows_literal, "o", ("below",), ("a", "b"), literal)
            self.gives(literal, rows_literal, "o", ("ring", 2), ("a", "b"), literal)
        card = ("rows", (((1, (0, 0)), ("p",)),))
        for literal in (word("o", "p"), negated(word("o", "q"))):
            self.gives(literal, rows_literal, "o", card, ("a", "b"), literal)

    def test_the_literals_fit_the_same_cells(self):
        source = random.Random(211)
        for _ in range(150):
            names = EVERY[:source.randint(0, 3)]
            card = random_card(source, len(names), ("kinds", "below", "ring"))
            atoms = every_atom("o", card, names)
            if len(own_atoms("o", card, names)) <= 6 and atoms:
                literals = [(source.choice(atoms), source.random() < 0.5) for _ in range(source.randint(1, 4))]
                new = [rows_literal("o", card, names, literal) for literal in literals]
                wanted = tuple(cell for cell in all_cells(len(names)) if slow_fits(card, names, literals, cell))
                self.assertEqual(cells_of(rows_card("o", card, names), names, new).rows, wanted)


class ProblemTest(LookerCase):

    def test_the_problem_stands_at_the_same_cells(self):
        source = random.Random(212)
        seen = {True: 0, False: 0}
        while min(seen.values()) < 30:
            problem = random_problem(source, longest=3, clauses=5)
            for owner in problem.owners:
                card = problem.card(owner)
                if card != ("terms",) and (card[0] == "rows" or len(own_atoms(owner, card, problem.names)) <= 6):
                    found = rows_problem(problem, owner)
                    self.assertEqual(found.card(owner), rows_card(owner, card, problem.names))
                    self.assertEqual(found.labels, problem.labels)
                    for label in problem:
                        new = [rows_literal(owner, card, problem.names, each) for each in problem[label]]
                        self.assertEqual(found[label], tuple(sorted(set(new))))
                    wanted = standing(problem)
                    self.assertEqual(standing(found), wanted)
                    self.assertEqual([cell for cell in wanted if slow_picks(found, cell) == []], [])
                    seen[len(wanted) > 0] += 1

    def test_other_owners_stay(self):
        problem = Problem.of(("a", "b"), (AB, turn("u", "b", "a", 1), same("a", "b")), o=("below",), u=("ring", 2),
                             t=("terms",))
        found = rows_problem(problem, "u")
        self.assertEqual(found.owners, ("o", "t", "u"))
        self.assertEqual((found.card("o"), found.card("t")), (("below",), ("terms",)))
        self.assertEqual(found[1], (same("a", "b"), AB, word("u", "w1")))
        self.assertEqual([owner_of(literal) for literal in problem[1]], ["", "o", "u"])

    def test_a_rows_card_changes_nothing(self):
        card = ("rows", (((1, (0,)), ("p",)),))
        problem = Problem.of(("a",), (word("o", "p"), word("o", "q")), o=card)
        self.assertEqual(rows_problem(problem, "o"), problem)

    def test_literals_that_become_equal_count_once(self):
        problem = Problem.of(("a", "b"), (turn("o", "a", "b", 1), turn("o", "b", "a", 2), same("a", "b")),
                             (below("p", "a", "a"), below("p", "b", "b")), o=("ring", 3), p=("below",))
        self.assertEqual(rows_problem(problem, "o")[1], (same("a", "b"), word("o", "w1")))
        self.assertEqual(rows_problem(problem, "p")[2], (word("p", "z"),))

    def test_errors(self):
        problem = Problem.of(EVERY, t=("terms",), u=("ring", 3))
        self.refuses(NoOwner, {"owner": "q"}, rows_problem, problem, "q")
        self.refuses(NoOwner, {"owner": ""}, rows_problem, problem, "")
        self.refuses(BadCard, {"value": ("terms",)}, rows_problem, problem, "t")
        self.refuses(TooMany, {"what": "words"}, rows_problem, problem, "u")
        self.assertEqual(problem, Problem.of(EVERY, t=("terms",), u=("ring", 3)))
