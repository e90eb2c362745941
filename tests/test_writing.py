import itertools

from helper import LookerCase
from onelooker.literals import below, equal, negated, of_kind, same, shared_literals, size_at_most, turn, word
from onelooker.problems import Problem
from onelooker.writing import write_card, write_clause, write_literal, write_problem, write_term, written_lines

A, B, C = ("a",), ("b",), ("c",)
FA = ("f", A)
NAMES = ("a", "b", "c")


class TermTest(LookerCase):

    def test_names(self):
        for name in ["a", "z", "a1", "b20", "c007", "x999"]:
            self.gives(name, write_term, (name,))

    def test_the_example(self):
        self.gives("g(f(a),b)", write_term, ("g", FA, B))

    def test_function_values(self):
        self.gives("f(a)", write_term, FA)
        self.gives("a(a)", write_term, ("a", A))
        self.gives("f1(a,b)", write_term, ("f1", A, B))
        self.gives("f(b,a)", write_term, ("f", B, A))
        self.gives("f(f(f(a)))", write_term, ("f", ("f", FA)))
        self.gives("f(g(a,b),g(b,a))", write_term, ("f", ("g", A, B), ("g", B, A)))

    def test_different_terms_are_written_differently(self):
        terms = [A, B, ("f",)]
        for _ in range(2):
            terms = terms + [("f", low) for low in terms[:9]]
            terms = terms + [(name, low, high) for name in "fg" for low in terms[:9] for high in terms[:9]]
        different = set(terms)
        self.assertGreater(len(different), 150)
        self.assertEqual(len({write_term(term) for term in different}), len(different))


class LiteralTest(LookerCase):

    def test_each_form(self):
        for written, literal in [
                ("a = b", same("b", "a")), ("size <= 1", size_at_most(1)), ("size <= 2", size_at_most(2)),
                ("o: w", word("o", "w")), ("o1: w20", word("o1", "w20")), ("o: a is k", of_kind("o", "a", "k")),
                ("o: a < b", below("o", "a", "b")), ("o: b < a", below("o", "b", "a")),
                ("o: a < a", below("o", "a", "a")), ("o: b = a + 0", turn("o", "a", "b", 0)),
                ("o: a = b + 2", turn("o", "b", "a", 2)), ("o: a = a + 1", turn("o", "a", "a", 1)),
                ("o: a = f(a)", equal("o", FA, A)), ("o: f(a) = g(b,a)", equal("o", ("g", B, A), FA))]:
            self.gives(written, write_literal, literal)
            self.gives("not " + written, write_literal, negated(literal))

    def test_the_example(self):
        self.gives("not o: b = a + 1", write_literal, (("o", "turn", "a", "b", 1), False))

    def test_different_literals_are_written_differently(self):
        literals = [*shared_literals(NAMES), *[word(owner, text) for owner in "op" for text in ["a", "b", "w"]]]
        for low, high in itertools.product(NAMES, repeat=2):
            literals += [below("o", low, high), of_kind("o", low, high)]
            literals += [turn("o", low, high, steps) for steps in range(3)]
            literals += [equal("o", (low,), ("f", (high,))), equal("o", (low,), ("f", (high,), (low,)))]
        both = set(literals) | {negated(literal) for literal in literals}
        self.assertEqual(len({write_literal(literal) for literal in both}), len(both))


class ClauseTest(LookerCase):

    def test_the_empty_clause(self):
        self.gives("false", write_clause, ())

    def test_literals_stand_in_their_order(self):
        self.gives("a = b", write_clause, (same("a", "b"),))
        self.gives("not a = b or a = b or o: w", write_clause,
                   (negated(same("a", "b")), same("a", "b"), word("o", "w")))
        self.gives("size <= 2 or a = b", write_clause, (size_at_most(2), same("a", "b")))

    def test_any_number_of_literals(self):
        literals = tuple([word("o", f"w{number}") for number in range(30)])
        self.gives(" or ".join([f"o: w{number}" for number in range(30)]), write_clause, literals)


class CardTest(LookerCase):

    def test_plain_cards(self):
        self.gives("below", write_card, ("below",))
        self.gives("terms", write_card, ("terms",))
        self.gives("ring 2", write_card, ("ring", 2))
        self.gives("ring 3", write_card, ("ring", 3))

    def test_kinds(self):
        self.gives("kinds b:0 r:1", write_card, ("kinds", (("b", 0), ("r", 1))))
        self.gives("kinds k:2", write_card, ("kinds", (("k", 2),)))
        self.gives("kinds a:0 b12:2 c:1", write_card, ("kinds", (("a", 0), ("b12", 2), ("c", 1))))

    def test_rows(self):
        self.gives("rows 1:00:p,q 2:01:", write_card, ("rows", (((1, (0, 0)), ("p", "q")), ((2, (0, 1)), ()))))
        self.gives("rows 3::", write_card, ("rows", (((3, ()), ()),)))
        self.gives("rows 1:: 1::w 3::v,w,x", write_card,
                   ("rows", (((1, ()), ()), ((1, ()), ("w",)), ((3, ()), ("v", "w", "x")))))
        self.gives("rows 3:012:w", write_card, ("rows", (((3, (0, 1, 2)), ("w",)),)))

    def test_different_cards_are_written_differently(self):
        cells = [(1, (0, 0)), (2, (0, 1)), (3, (0, 0))]
        rows = [(cell, words) for cell in cells for words in [(), ("p",), ("p", "q"), ("q",)]]
        cards = [("rows", chosen) for many in (1, 2) for chosen in itertools.combinations(rows, many)]
        cards += [("kinds", ((kind, count),)) for kind in ["a", "b", "a1"] for count in range(3)]
        cards += [("kinds", (("a", 0), (kind, count))) for kind in ["b", "c"] for count in range(3)]
        cards += [("below",), ("terms",), ("ring", 2), ("ring", 3)]
        self.assertEqual(len({write_card(card) for card in cards}), len(cards))


class ProblemTest(LookerCase):

    def test_the_example(self):
        problem = Problem(("a", "b"), {"o": ("below",)}, {3: (below("o", "a", "b"), same("a", "b"))})
        self.assertEqual(write_problem(problem), "names a b\ntheory o below\n3. a = b or o: a < b")

    def test_problems_of_little(self):
        self.assertEqual(write_problem(Problem((), {}, {})), "names")
        self.assertEqual(write_problem(Problem(("c",), {}, {})), "names c")
        self.assertEqual(write_problem(Problem((), {"t": ("ring", 2)}, {})), "names\ntheory t ring 2")
        self.assertEqual(write_problem(Problem((), {}, {999: (size_at_most(1),)})), "names\n999. size <= 1")

    def test_owners_and_labels_ascend(self):
        theories = {"u": ("terms",), "b": ("kinds", (("k", 0),)), "c1": ("rows", (((3, (0, 0)), ("w",)),))}
        clauses = {20: (word("c1", "w"),), 3: (of_kind("b", "a", "k"),), 100: (equal("u", A, FA),)}
        self.assertEqual(write_problem(Problem(("a", "b"), theories, clauses)), "\n".join([
            "names a b", "theory b kinds k:0", "theory c1 rows 3:00:w", "theory u terms",
            "3. b: a is k", "20. c1: w", "100. u: a = f(a)"]))

    def test_the_lines_are_generated(self):
        problem = Problem.of(("a",), (size_at_most(1),), (size_at_most(2),), o=("below",))
        lines = written_lines(problem)
        self.assertIs(iter(lines), lines)
        self.assertEqual(next(lines), "names a")
        self.assertEqual(list(lines), ["theory o below", "1. size <= 1", "2. size <= 2"])
        self.assertEqual(list(lines), [])
        self.assertEqual(list(written_lines(problem)), write_problem(problem).split("\n"))

    def test_nothing_is_read_before_the_first_line_is_asked_for(self):
        lines = written_lines(None)
        with self.assertRaises(AttributeError):
            next(lines)

    def test_the_problem_stays(self):
        problem = Problem.of(("a",), (size_at_most(1),), o=("below",))
        write_problem(problem)
        self.assertEqual(problem, Problem.of(("a",), (size_at_most(1),), o=("below",)))
