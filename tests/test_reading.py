import copy

from helper import LookerCase
from onelooker.errors import BadText, LookerError
from onelooker.literals import (below, clause_of, equal, negated, of_kind, same, shared_literals, size_at_most, turn,
                                word)
from onelooker.problems import Problem
from onelooker.reading import read_card, read_clause, read_literal, read_problem, read_term
from onelooker.writing import write_card, write_clause, write_literal, write_problem, write_term

A, B, C = ("a",), ("b",), ("c",)
FA = ("f", A)
NAMES = ("a", "b", "c")
KINDS = ("kinds", (("b", 0), ("r", 1)))
ROWS = ("rows", (((1, (0, 0, 0)), ("p", "q")), ((3, (0, 1, 0)), ())))
THEORIES = {"k": KINDS, "o": ("below",), "r": ROWS, "t": ("terms",), "u": ("ring", 3)}
SIGNS = " (),.:=<+\nabkfnort0129-A"
LITERALS = [
    same("a", "b"), same("b", "c"), size_at_most(1), size_at_most(2), word("r", "p"), word("r", "z12"),
    of_kind("k", "a", "b"), of_kind("k", "c", "r"), below("o", "a", "b"), below("o", "c", "c"),
    turn("u", "a", "b", 1), turn("u", "c", "a", 0), turn("u", "b", "b", 2), equal("t", A, FA),
    equal("t", FA, ("g", C, A)),
    equal("t", ("f", ("f", FA)), ("f", ("f", ("f", B))))]
CARDS = [
    ("below",), ("terms",), ("ring", 2), ("ring", 3), KINDS, ROWS, ("kinds", (("k", 2),)), ("kinds", (("k", 1),)),
    ("kinds", (("a", 0), ("b12", 2), ("c", 1))), ("rows", (((3, (0, 1, 2)), ("w",)),)),
    ("rows", (((1, (0, 0, 0)), ()), ((1, (0, 0, 0)), ("w",)), ((3, (0, 0, 1)), ("v", "w", "x"))))]


def bent(text):
    """The texts that have one sign less, one sign more or another sign, and those with two signs exchanged."""
    found = {text[:at] + text[at + 1:] for at in range(len(text))}
    found |= {text[:at] + sign + text[at:] for at in range(len(text) + 1) for sign in SIGNS}
    found |= {text[:at] + sign + text[at + 1:] for at in range(len(text)) for sign in SIGNS}
    found |= {text[:at] + text[at + 1] + text[at] + text[at + 2:] for at in range(len(text) - 1)}
    return sorted(found - {text})


class ReaderCase(LookerCase):

    def reads(self, write, read, value, *args, **more):
        """What is written is read as the same value, of exactly the same kinds."""
        return self.gives(value, read, write(value), *args, **more)

    def refuses_texts(self, read, texts, *args, **more):
        """Each text raises BadText with line 1, and with a line that is told."""
        for text in texts:
            self.refuses(BadText, {"line": 1}, read, text, *args, **more)
            self.refuses(BadText, {"line": 23}, read, text, *args, line=23, **more)

    def bends(self, write, read, text, *args):
        """Each bent text is refused, or it is the written form of what is read; some texts are refused."""
        refused = 0
        for other in bent(text):
            try:
                value = read(other, *args)
            except BadText as error:
                self.assertEqual(vars(error), {"line": 1})
                refused += 1
            else:
                self.assertEqual(write(value), other)
        self.assertGreater(refused, 0)


class TermTest(ReaderCase):

    def test_written_terms_are_read(self):
        for term in [A, ("z",), ("a123",), ("f", A), ("a", A), ("f1", A, B), ("g", FA, B), ("f", ("g", A, FA), C),
                     ("f", ("f", FA)), ("f", ("g", ("h", A, B), A), ("h", B, B))]:
            self.reads(write_term, read_term, term)
            self.bends(write_term, read_term, write_term(term))

    def test_depth(self):
        self.gives(("f", ("f", ("f", A))), read_term, "f(f(f(a)))")
        self.gives(("f", B, ("f", ("f", A))), read_term, "f(b,f(f(a)))")
        self.refuses_texts(read_term, ["f(f(f(f(a))))", "f(a,f(f(f(a))))", "f(" * 50 + "a" + ")" * 50])

    def test_what_is_no_term(self):
        self.refuses_texts(read_term, [
            "", " ", "a ", " a", "f (a)", "f( a)", "f(a )", "f(a, b)", "f()", "f(a", "f(a))", "f(a)b", "f(a) b", "fa)",
            "(a)", "f(a,)", "f(,a)", "f(a,b,c)", "f(a,b,c,d)", "ab", "a1234", "1", "1a", "A", "f(A)", "f(ab)",
            "ff(a)", "a b", "f(a)\n", "f(a)(b)", "f((a))", "a=b", "a.", "f\u0430", "f(a\u0662)", ",", "(", ")", "()",
            "=", "<=", "f(<=)"])

    def test_long_texts(self):
        self.refuses_texts(read_term, ["f(" * 6000 + "a" + ")" * 6000, "f(" * 10000, "a" * 20000, "f(" + "a," * 9998 + "a)", "f(a)" * 5000, " " * 20000, "(" * 50])


class LiteralTest(ReaderCase):

    def test_written_literals_are_read(self):
        for literal in LITERALS + [negated(literal) for literal in LITERALS]:
            self.reads(write_literal, read_literal, literal, NAMES, THEORIES)

    def test_every_shared_literal_is_read(self):
        for literal in shared_literals(NAMES):
            self.reads(write_literal, read_literal, literal, NAMES, {})

    def test_bent_literals(self):
        for literal in LITERALS:
            for sign in (True, False):
                text = write_literal((literal[0], sign))
                self.bends(write_literal, read_literal, text, NAMES, THEORIES)

    def test_names_and_theories_that_are_not_there(self):
        self.refuses_texts(read_literal, ["a = b", "o: a < b", "o: b < a", "k: b is r", "u: a = b + 1", "t: b = f(a)"],
                           ("a", "c"), THEORIES)
        self.refuses_texts(read_literal, ["o: a < b", "k: a is b", "r: p", "u: a = b + 1", "t: a = f(a)", "not r: p",
                                          "size: a", "not: p"], NAMES, {})
        self.refuses_texts(read_literal, ["a = b", "o: a < a"], (), THEORIES)
        self.gives(size_at_most(2), read_literal, "size <= 2", (), {})

    def test_the_card_says_which_forms_are_read(self):
        forms = {"k": "a is b", "o": "a < b", "r": "p", "t": "a = f(b)", "u": "a = b + 1"}
        for owner in THEORIES:
            for other, form in forms.items():
                if owner == other:
                    self.assertEqual(write_literal(read_literal(f"{owner}: {form}", NAMES, THEORIES)),
                                     f"{owner}: {form}")
                else:
                    self.refuses_texts(read_literal, [f"{owner}: {form}"], NAMES, THEORIES)

    def test_what_is_no_literal(self):
        self.refuses_texts(read_literal, [
            "", "not", "not ", "a", "b = a", "a = a", "a = b = c", "a < b", "a <= b", "a=b", "a  = b", "a = b ",
            "a = b\n", "not not a = b", "not  a = b", "nota = b", "false", "a = b or b = c", "a = d", "size <= 0",
            "size <= 3", "size <= 01", "size = 1", "size <= a", "size < 1", "size < = 1", "size <= 1000", "size <=",
            "size <= 1 1", "a <= 1", "not: a = b", "o:a < b", "o : a < b", "o: a<b", "o: a <= b", "o: a < d",
            "o: a <", "o: < a", "o:", "o: ", "o: o: a < b", ": a < b", "o: a < b < c", "not o: not a < b",
            "o: not a < b", "k: a is g", "k: a isb", "k: d is b", "k: is b", "k: a is", "k: a is b r", "r: p q",
            "r: P", "r: pp", "r: 1", "r: not", "r: or", "r: is", "r: p1234", "r: (p)", "u: a = b", "u: a = b + 3",
            "u: a = b + 01", "u: a = b + 00", "u: a = b +", "u: a = b + a", "u: a = b + 1 + 1", "u: a + 1 = b",
            "u: a = b+1", "u: d = a + 1", "u: a = b - 1", "t: f(a) = a", "t: a = b", "t: a = a", "t: f(a) = f(a)",
            "t: a = f(d)", "t: a = f(a", "t: a = f(f(f(f(a))))", "t: a =", "t: = a", "t: =",
            "t: a = f(a) = b", "t: a = f(a, b)", "t: a f(a)", "t: a == f(a)"], NAMES, THEORIES)

    def test_long_texts(self):
        self.refuses_texts(read_literal, ["not " * 5000, "r: " + "p" * 19000, "u: a = b + " + "1" * 19000,
                                          "t: a = " + "f(" * 50 + "a" + ")" * 50], NAMES, THEORIES)

    def test_arguments_stay(self):
        theories = copy.deepcopy(THEORIES)
        read_literal("o: a < b", NAMES, theories)
        self.assertEqual((theories, list(theories)), (THEORIES, list(THEORIES)))


class ClauseTest(ReaderCase):

    def words(self, many):
        return clause_of([word("r", f"w{number}") for number in range(many)])

    def test_written_clauses_are_read(self):
        for literals in [(), LITERALS[:1], LITERALS[:3], LITERALS[2:10], LITERALS[8:],
                         [LITERALS[0], negated(LITERALS[0])]]:
            self.reads(write_clause, read_clause, clause_of(literals), NAMES, THEORIES)

    def test_the_empty_clause(self):
        for most in (0, 1, 8, 20):
            self.gives((), read_clause, "false", (), {}, most=most)
        self.refuses_texts(read_clause, ["", "False", "false ", " false", "not false", "false or false", "or"], (), {})
        self.refuses_texts(read_clause, ["false or size <= 1", "size <= 1 or false"], (), {})

    def test_the_greatest_number_of_literals(self):
        self.gives(self.words(8), read_clause, write_clause(self.words(8)), NAMES, THEORIES)
        self.refuses_texts(read_clause, [write_clause(self.words(9))], NAMES, THEORIES)
        for most in (0, 1, 7, 8, 9, 20, 500):
            if most > 0:
                self.gives(self.words(most), read_clause, write_clause(self.words(most)), NAMES, THEORIES, most=most)
            self.refuses_texts(read_clause, [write_clause(self.words(most + 1))], NAMES, THEORIES, most=most)

    def test_literals_ascend_and_differ(self):
        first, second = "not a = b", "a = b"
        self.gives((negated(same("a", "b")), same("a", "b")), read_clause, f"{first} or {second}", NAMES, {})
        for text in [f"{second} or {first}", f"{first} or {first}", "size <= 1 or a = b"]:
            self.refuses_texts(read_clause, [text], NAMES, {})

    def test_bent_clauses(self):
        for literals in [(), LITERALS[:2], LITERALS[8:9] + LITERALS[2:3], LITERALS[4:5] + LITERALS[10:11]]:
            self.bends(write_clause, read_clause, write_clause(clause_of(literals)), NAMES, THEORIES)

    def test_what_is_no_clause(self):
        self.refuses_texts(read_clause, [
            "a = b or ", " or a = b", "a = b  or size <= 1", "a = b or  size <= 1", "a = bor size <= 1",
            "a = b orsize <= 1", "a = b or or size <= 1", "a = b size <= 1", "a = b, size <= 1", "a = b or size <= 3",
            "a = b or o: a < d", "a = b or x: p", "a = b\nor size <= 1", "a = b or size <= 1\n"], NAMES, THEORIES)

    def test_long_clauses(self):
        terms = [(("f", A, ("f", (f"g{number}", A))), (f"h{number}", A)) for number in range(600)]
        literals = clause_of([equal("t", first, second) for first, second in terms])
        text = write_clause(literals)
        self.assertTrue(15000 < len(text) <= 20000)
        self.gives(literals, read_clause, text, NAMES, THEORIES, most=600)


class CardTest(ReaderCase):

    def test_written_cards_are_read(self):
        for card in CARDS:
            self.reads(write_card, read_card, card, 3)
            self.bends(write_card, read_card, write_card(card), 3)

    def test_the_width(self):
        for width, text in enumerate(["rows 1:: 3::w", "rows 1:0: 3:0:w", "rows 1:00:p,q 2:01:", "rows 3:012:"]):
            for other in range(4):
                if other == width:
                    self.assertEqual(write_card(read_card(text, other)), text)
                else:
                    self.refuses_texts(read_card, [text], other)
            self.assertEqual(read_card("below", width), ("below",))

    def test_the_example(self):
        self.gives(("rows", (((1, (0, 0)), ("p", "q")), ((2, (0, 1)), ()))), read_card, "rows 1:00:p,q 2:01:", 2)

    def test_what_is_no_card(self):
        self.refuses_texts(read_card, [
            "", " ", "below ", " below", "Below", "terms 1", "ring", "ring ", "ring 1", "ring 4", "ring 02", "ring  2",
            "ring 2 ", "ring 2 3", "ring x", "ring 2\n", "kinds", "kinds ", "kinds k", "kinds k:", "kinds k:3",
            "kinds k:00", "kinds :1", "kinds k:1:1", "kinds b:1 a:1", "kinds a:1 a:1", "kinds a:1  b:1",
            "kinds a:2 b:1", "kinds a:1 b:1 ", "kinds a:0 b:0 c:0 d:0", "kinds a: 1", "kinds A:1", "kinds a:1,b:1",
            "kind a:1", "rows", "rows ", "rows 1", "rows 1:00", "rows 4:00:", "rows 0:00:", "rows 01:00:",
            "rows 1:01:", "rows 2:02:", "rows 1:0:", "rows 1:000:", "rows 2:10:", "rows 1:0a:", "rows 1:00:q,p",
            "rows 1:00:p,p", "rows 1:00:p,", "rows 1:00:,p", "rows 1:00:p, q", "rows 1:00:p:", "rows 1:00:p:q",
            "rows 1:00:P", "rows 2:01: 1:00:p", "rows 1:00: 1:00:", "rows 1:00:  2:01:",
            "rows 1:00: ", "rows :00:", "rows 1,00,", "row 1:00:", "rows 1:00:a,b,c,d,e,f,g", "rows \u0661:00:",
            "rows 1:00:a,b,c,d 2:01:e,f,g"], 2)

    def test_most_rows(self):
        words = [tuple(text for at, text in enumerate("abcdef") if number >> at & 1) for number in range(64)]
        rows = sorted(((1, ()), listed) for listed in words)
        self.reads(write_card, read_card, ("rows", tuple(rows)), 0)
        self.refuses_texts(read_card, [write_card(("rows", (*rows, ((2, ()), ()))))], 0)


class ProblemTest(ReaderCase):

    TEXT = "names a b\ntheory k kinds k:0\ntheory o below\n3. a = b or o: a < b\n17. not k: b is k\n200. size <= 2"

    def refuses_problem(self, line, *rows):
        self.refuses(BadText, {"line": line}, read_problem, "\n".join(rows))

    def first_bad_line(self, text):
        """The first line such that the lines up to it are no written form, found by the definition; 0 if none is."""
        rows = text.split("\n")
        for line in range(1, len(rows) + 1):
            try:
                problem = read_problem("\n".join(rows[:line]))
            except BadText:
                return line
            if write_problem(problem) != "\n".join(rows[:line]):
                return line
        return 0

    def test_the_example(self):
        problem = Problem(("a", "b"), {"o": ("below",)}, {3: (same("a", "b"), below("o", "a", "b"))})
        self.assertEqual(read_problem("names a b\ntheory o below\n3. a = b or o: a < b"), problem)

    def test_written_problems_are_read(self):
        for problem in [
                Problem((), {}, {}), Problem(("a",), {}, {}), Problem(NAMES, {}, {999: (size_at_most(1),)}),
                Problem((), {"t": ("terms",)}, {}), Problem(NAMES, {"r": ROWS, "k": KINDS, "u": ("ring", 3)}, {}),
                Problem(NAMES, {"r": ROWS, "k": KINDS, "u": ("ring", 3)},
                        {1: (word("r", "p"), turn("u", "a", "c", 2)), 2: (negated(of_kind("k", "b", "r")),)}),
                Problem(NAMES, {"o": ("below",), "t": ("terms",)},
                        {label: tuple(LITERALS[at] for at in (0, 2, 8, 9, 13, 14, 15)) for label in range(960, 1000)})]:
            text = write_problem(problem)
            read = read_problem(text)
            self.assertEqual(read, problem)
            self.assertEqual(repr((read.names, read.theories(), read.clauses())),
                             repr((problem.names, problem.theories(), problem.clauses())))

    def test_bent_problems(self):
        self.assertEqual(write_problem(read_problem(self.TEXT)), self.TEXT)
        lines = {}
        for other in bent(self.TEXT):
            try:
                self.assertEqual(write_problem(read_problem(other)), other)
            except BadText as error:
                self.assertEqual(self.first_bad_line(other), error.line)
                lines[error.line] = True
        self.assertEqual(sorted(lines), [1, 2, 3, 4, 5, 6, 7])

    def test_the_empty_string(self):
        self.refuses_problem(1, "")

    def test_a_line_feed_at_the_end(self):
        rows = self.TEXT.split("\n")
        for many in range(1, len(rows) + 1):
            self.refuses_problem(many + 1, *rows[:many], "")
        self.refuses_problem(2, "names", "", "")

    def test_a_line_twice(self):
        rows = self.TEXT.split("\n")
        for at in range(len(rows)):
            self.refuses_problem(at + 2, *rows[:at + 1], *rows[at:])
            self.refuses_problem(len(rows) + 1, *rows, rows[at])

    def test_two_lines_exchanged(self):
        rows = self.TEXT.split("\n")
        # The clause in row 3 needs the theory in row 2, so it is wrong already where it stands.
        for at, line in enumerate([1, 3, 3, 5, 6]):
            self.refuses_problem(line, *rows[:at], rows[at + 1], rows[at], *rows[at + 2:])

    def test_the_first_line(self):
        for row in ["names ", " names", "name a", "names  a", "names a ", "names b a", "names a a", "names a b c d",
                    "names A", "names ab", "names a,b", "a", "Names", "theory o below", "1. size <= 1", "names\ta",
                    "names a\r"]:
            self.refuses_problem(1, row)
            self.refuses_problem(1, row, "theory o below")

    def test_theory_lines(self):
        for row in ["theory", "theory o", "theory o ", "theory  below", "theory o belo", "theory o  below",
                    "theory o below ", "theory O below", "theory oo below", "Theory o below", "theory o rows 1:0:",
                    "theory o ring 4", "names a b", "theories o below", "theory o below t terms", "theory a below",
                    "theory k below"]:
            self.refuses_problem(3, "names a b", "theory k terms", row)
        self.refuses_problem(5, "names", "theory a below", "theory b below", "theory c below", "theory d below")
        self.refuses_problem(3, "names", "1. size <= 1", "theory o below")

    def test_clause_lines(self):
        for row in ["1.", "1. ", "1 . size <= 1", "1.size <= 1", "1.  size <= 1", " 1. size <= 1", "01. size <= 1",
                    "0. size <= 1", "1000. size <= 1", "-1. size <= 1", "+1. size <= 1", "a. size <= 1", ". size <= 1",
                    "1: size <= 1", "1 size <= 1", "size <= 1", "1. false", "1. size <= 3", "1. a = d", "1. x: a < b",
                    "1. size <= 1 or a = b", "1. o: a < b ", "1. o: w", "1. 1. size <= 1", "", " ", "1. size <= 1\r",
                    "1x size <= 1", "1.. size <= 1"]:
            self.refuses_problem(3, "names a b", "theory o below", row)
            self.refuses_problem(3, "names a b", "theory o below", row, "2. size <= 1")
        for label in ["1", "4", "5"]:
            self.refuses_problem(4, "names a b", "theory o below", "5. size <= 2", f"{label}. size <= 1")
        self.assertEqual(read_problem("names\n5. size <= 1\n6. size <= 1\n999. size <= 1").labels, (5, 6, 999))

    def test_no_theory_comes_behind_its_clauses(self):
        self.refuses_problem(2, "names a b", "1. o: a < b", "theory o below")

    def test_limits(self):
        rows = ["names", *[f"{label}. size <= 1" for label in range(1, 41)]]
        self.assertEqual(len(read_problem("\n".join(rows))), 40)
        self.refuses_problem(42, *rows, "41. size <= 1")
        self.refuses_problem(42, *rows, "41. size <= 1", "42. size <= 1")
        words = " or ".join([f"o: w{number}" for number in range(8)])
        start = ["names a", "theory o rows 3:0:w"]
        self.assertEqual(len(read_problem("\n".join([*start, f"1. {words}"]))[1]), 8)
        self.refuses_problem(3, *start, f"1. {words} or o: w8")

    def test_most_terms(self):
        rows = ["names a", "theory o terms"]
        rows += [f"{number}. o: a = f{number}(a)" for number in range(1, 41)]
        self.assertEqual(len(read_problem("\n".join(rows))), 40)
        rows[41] = "40. o: a = f40(f41(a))"
        self.refuses_problem(42, *rows)
        rows[41] = "40. o: a = f39(f38(a))"
        self.assertEqual(len(read_problem("\n".join(rows))), 40)

    def test_other_separators_do_not_separate_lines(self):
        for sign in "\r\t\x0b\x0c\x1c\x1d\x1e\x85\u2028\u2029":
            self.refuses_problem(1, f"names a b{sign}theory o below")
            self.refuses_problem(2, "names a b", f"theory o below{sign}1. a = b")

    def test_long_texts(self):
        self.refuses_problem(2, *["names"] * 3000)
        self.refuses_problem(1, "n" * 20000)
        self.refuses_problem(2, "names", *[""] * 19000)
        self.refuses_problem(2, "names", "theory o rows " + " ".join(["3::w"] * 3900))

    def test_every_refusal_is_one_of_the_program(self):
        for text in bent("names a\ntheory t terms\n1. t: a = f(a)"):
            try:
                read_problem(text)
            except LookerError as error:
                self.assertIs(type(error), BadText)
