import random
import re

from helper import LookerCase
from onelooker.certificates import Certificate
from onelooker.certtexts import certificate_lines, read_certificate, write_certificate
from onelooker.errors import BadText
from onelooker.literals import below, clause_of, equal, negated, of_kind, same, size_at_most, turn, word
from onelooker.reading import read_clause, read_literal
from onelooker.writing import write_clause
from slow import random_certificate_rows, random_problem

NAMES = ("a", "b")
THEORIES = {"o": ("below",), "r": ("rows", (((1, (0, 0)), ("p",)),)), "t": ("terms",), "u": ("ring", 3),
            "k": ("kinds", (("k", 0),))}
SAME, SIZE_1, SIZE_2 = same("a", "b"), size_at_most(1), size_at_most(2)
AB, P, TURN = below("o", "a", "b"), word("r", "p"), turn("u", "a", "b", 2)
EQUAL = equal("t", ("a",), ("f", ("a",), ("g", ("b",))))
ROWS = [("given", 12), ("theory", "", ((SIZE_1[0], False), SIZE_2)), ("resolve", 0, 1, SIZE_1[0]),
        ("theory", "o", clause_of([negated(AB), P, SAME])), ("given", 999), ("theory", "t", ()),
        ("resolve", 4, 4, EQUAL[0]), ("theory", "u", (negated(TURN),)), ("resolve", 7, 0, TURN[0]),
        ("theory", "k", (of_kind("k", "b", "k"),)), ("resolve", 8, 9, ("k", "kind", "a", "k")),
        ("resolve", 0, 10, SAME[0])]
LINES = ["0. given 12", "1. shared: not size <= 1 or size <= 2", "2. resolve 0 1 on size <= 1",
         "3. theory o: a = b or not o: a < b or r: p", "4. given 999", "5. theory t: false",
         "6. resolve 4 4 on t: a = f(a,g(b))", "7. theory u: not u: b = a + 2", "8. resolve 7 0 on u: b = a + 2",
         "9. theory k: k: b is k", "10. resolve 8 9 on k: a is k", "11. resolve 0 10 on a = b"]
TEXT = "\n".join(LINES)


def bent(text):
    """Texts with one sign put in, exchanged or left out."""
    signs = "a 0<\n:.9d"
    for at in range(len(text) + 1):
        yield text[:at] + text[at + 1:]
        for sign in signs:
            yield text[:at] + sign + text[at:]
            yield text[:at] + sign + text[at + 1:]


class WriteTest(LookerCase):

    def test_the_examples(self):
        self.gives("0. given 12\n1. shared: not size <= 1 or size <= 2\n2. resolve 0 1 on size <= 1",
                   lambda: write_certificate(Certificate(ROWS[:3])))

    def test_no_rows(self):
        self.assertEqual(write_certificate(Certificate([])), "")
        self.assertEqual(list(certificate_lines(Certificate([]))), [])

    def test_each_row(self):
        certificate = Certificate(ROWS)
        self.assertEqual(list(certificate_lines(certificate)), LINES)
        self.assertEqual(write_certificate(certificate), TEXT)
        self.assertEqual(certificate.rows, tuple(ROWS))

    def test_clauses_of_any_length(self):
        clause = tuple(sorted(word("r", f"w{number}") for number in range(900)))
        self.assertEqual(write_certificate(Certificate.theory("r", clause)), f"0. theory r: {write_clause(clause)}")

    def test_lines_are_generated(self):
        found = certificate_lines(Certificate(ROWS))
        self.assertIs(iter(found), found)
        self.assertEqual(next(found), LINES[0])
        found = certificate_lines(None)
        with self.assertRaises(AttributeError):
            next(found)


class ReadTest(LookerCase):

    def reads(self, rows, text, names=NAMES, theories=THEORIES):
        found = read_certificate(text, names, theories)
        self.assertIs(type(found), Certificate)
        self.assertEqual(repr(found.rows), repr(tuple(rows)))
        self.assertEqual(write_certificate(found), text)

    def refuses_lines(self, line, *lines, names=NAMES, theories=THEORIES):
        self.refuses(BadText, {"line": line}, read_certificate, "\n".join(lines), names, theories)

    def wrong(self, *lines):
        """Each of the lines is wrong at its place, whatever stands behind it."""
        for line in lines:
            self.refuses_lines(3, *LINES[:2], line)
            self.refuses_lines(3, *LINES[:2], line, "", *LINES[3:])

    def test_the_empty_string(self):
        self.reads([], "")
        self.reads([], "", (), {})

    def test_each_row(self):
        self.reads(ROWS, TEXT)
        for many in range(1, len(ROWS)):
            self.reads(ROWS[:many], "\n".join(LINES[:many]))

    def test_clauses_of_any_length(self):
        clause = tuple(sorted([*[word("r", f"w{number}") for number in range(900)], *[(P[0], False), P, AB, SAME]]))
        rows = [("theory", "r", clause), ("theory", "", clause), ("given", 1)]
        self.reads(rows, write_certificate(Certificate(rows)))

    def test_any_number_of_rows(self):
        rows = [("given", 1), *[("resolve", at, 0, AB[0]) for at in range(1500)]]
        self.reads(rows, write_certificate(Certificate(rows)))

    def test_bad_indexes_of_lines(self):
        self.wrong("02. given 1", "1. given 1", "3. given 1", "given 1", "2 given 1", "2.given 1", "2.  given 1",
                   " 2. given 1", "2 . given 1", "+2. given 1", "2: given 1", ". given 1", "two. given 1", "2.")
        self.refuses_lines(1, "1. given 12")
        self.refuses_lines(1, "00. given 12")
        self.refuses_lines(2, LINES[0], LINES[0])

    def test_empty_lines(self):
        self.refuses_lines(1, "", "")
        self.refuses_lines(1, "", *LINES)
        self.refuses_lines(13, *LINES, "")
        self.wrong("", " ", "2. ", "\r")

    def test_two_lines_exchanged(self):
        for at in range(len(LINES) - 1):
            self.refuses_lines(at + 1, *LINES[:at], LINES[at + 1], LINES[at], *LINES[at + 2:])

    def test_a_line_twice_or_left_out(self):
        for at in range(len(LINES)):
            self.refuses_lines(at + 2, *LINES[:at + 1], *LINES[at:])
        for at in range(len(LINES) - 1):
            self.refuses_lines(at + 1, *LINES[:at], *LINES[at + 1:])

    def test_given(self):
        for label in (1, 9, 10, 999):
            self.reads([("given", label)], f"0. given {label}")
        self.wrong("2. given", "2. given ", "2. given 0", "2. given 1000", "2. given 01", "2. given -1", "2. given 1 ",
                   "2. given  1", "2. Given 1", "2. given a", "2. given 1 2", "2. given 1.", "2. givn 1", "2. given +1",
                   "2. given True", "2. given \u0661")

    def test_theory(self):
        self.wrong("2. theory", "2. theory o", "2. theory o:", "2. theory o: ", "2. theory : false", "2. : false",
                   "2. theory x: false", "2. theory  o: false", "2. theory o : false", "2. theory o:  false",
                   "2. theory o false", "2. theory o: false ", "2. theory o: False", "2. theory shared: false",
                   "2. theory o: o: a < b or a = b", "2. theory o: a = b or a = b", "2. theory o: a = c",
                   "2. theory o: x: w", "2. theory o: o: w", "2. theory o: a = b or", "2. theory o: or a = b",
                   "2. theory o: a = b or false", "2. theory o: a = b  or o: a < b", "2. o: false", "2. theory O: false",
                   "2. theory o: not not a = b", "2. theory o: size <= 3", "2. theory o: theory o: false",
                   "2. shared theory o: false", "2. o: a < b", "2. theory o o: false")

    def test_shared(self):
        self.reads([("theory", "", (AB,))], "0. shared: o: a < b")
        self.reads([("theory", "", ())], "0. shared: false")
        self.wrong("2. shared", "2. shared:", "2. shared: ", "2. shared:false", "2. shared : false",
                   "2. shared: size <= 2 or not size <= 1", "2. Shared: false", "2. shared: b = a", "2. shared shared: false")

    def test_the_literals_of_a_theory_row_may_have_any_owners(self):
        rows = [("theory", "o", clause_of([AB, P, EQUAL, TURN])), ("theory", "t", (P,)), ("theory", "", (TURN,))]
        self.reads(rows, write_certificate(Certificate(rows)))

    def test_resolve(self):
        self.wrong("2. resolve", "2. resolve 0 1", "2. resolve 0 1 on", "2. resolve 0 1 on ", "2. resolve 0 1 a = b",
                   "2. resolve 0 1 On a = b", "2. resolve 0 1  on a = b", "2. resolve 0  1 on a = b",
                   "2. resolve 0 1 on  a = b", "2. resolve 0 1 on a = b ", "2. resolve 0 2 on a = b",
                   "2. resolve 2 0 on a = b", "2. resolve -1 0 on a = b", "2. resolve 00 1 on a = b",
                   "2. resolve 0 01 on a = b", "2. resolve 0 on a = b", "2. resolve 0 1 1 on a = b",
                   "2. resolve 0 1 on not a = b", "2. resolve 0 1 on a = c", "2. resolve 0 1 on false",
                   "2. resolve 0 1 on a = b or size <= 1", "2. resolve a 1 on a = b", "2. resolve on 0 1 on a = b",
                   "2. resolve 0 1 on x: w", "2. resolve 0, 1 on a = b", "2. resolve 0 1 on b = a")
        self.refuses_lines(1, "0. resolve 0 0 on a = b")
        self.refuses_lines(1, "0. resolve -1 -1 on a = b")
        self.reads([("given", 1), ("resolve", 0, 0, AB[0])], "0. given 1\n1. resolve 0 0 on o: a < b")

    def test_names_and_theories(self):
        self.refuses_lines(4, *LINES, names=("a", "b"), theories={})
        self.refuses_lines(4, *LINES, names=("a",))
        self.refuses_lines(6, *LINES, theories={"o": ("below",), "r": THEORIES["r"]})
        self.refuses_lines(10, *LINES, theories={**THEORIES, "k": ("below",)})

    def test_the_first_wrong_line_is_told(self):
        self.refuses_lines(2, LINES[0], "x", "y", *LINES[3:])
        self.refuses_lines(1, "x", "", "y")

    def test_other_signs_and_separators(self):
        for sign in "\r\t\x0b\x0c\x1c\x85\u2028\xa0":
            self.refuses_lines(1, f"0. given 12{sign}")
            self.refuses_lines(1, f"0. given 12{sign}1. given 12")
            self.refuses_lines(2, LINES[0], LINES[1] + sign)

    def test_bent_texts(self):
        lines = {}
        for other in bent(TEXT):
            wanted = [at for at, line in enumerate(other.split("\n")) if not stands(line, at)]
            try:
                found = read_certificate(other, NAMES, THEORIES)
                self.assertEqual(write_certificate(found), other)
                self.assertEqual(wanted, [], other)
            except BadText as error:
                self.assertEqual(error.line, wanted[0] + 1, other)
                lines[error.line] = True
        self.assertEqual(sorted(lines), list(range(1, 14)))

    def test_samples(self):
        source = random.Random(140)
        many = 0
        for _ in range(100):
            problem = random_problem(source)
            rows, _ = random_certificate_rows(source, problem)
            certificate = Certificate(rows)
            text = write_certificate(certificate)
            self.assertEqual(read_certificate(text, problem.names, problem.theories()), certificate)
            many += len(rows)
        self.assertTrue(many > 500, many)

    def test_many_lines(self):
        lines = [f"{at}. given {at % 999 + 1}" for at in range(20000)]
        self.assertEqual(len(read_certificate("\n".join(lines), (), {})), 20000)
        self.refuses_lines(20001, *lines, "20000. given 0")


def reads(read, text, **more):
    """What a reader reads; None if it refuses the text."""
    try:
        return read(text, NAMES, THEORIES, **more)
    except BadText:
        return None


def stands(line, index):
    """True if the line can stand at the index in a written form."""
    head = f"{index}. "
    if not line.startswith(head):
        return False
    rest = line[len(head):]
    if re.fullmatch("given [1-9][0-9]{0,2}", rest):
        return True
    found = re.fullmatch("(?:theory ([a-z][0-9]{0,3})|shared): (.*)", rest)
    if found:
        return found[1] in (None, *THEORIES) and reads(read_clause, found[2], most=99) is not None
    found = re.fullmatch("resolve (0|[1-9][0-9]*) (0|[1-9][0-9]*) on (.*)", rest)
    if not found or int(found[1]) >= index or int(found[2]) >= index:
        return False
    literal = reads(read_literal, found[3])
    return literal is not None and literal[1]
