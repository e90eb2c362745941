import random

from helper import LookerCase
from onelooker.certificates import Certificate
from onelooker.checking import Checker, check, refutes, row_clauses
from onelooker.deciders import all_parts
from onelooker.errors import BadRow
from onelooker.literals import below, clause_of, equal, negated, of_kind, same, size_at_most, turn, word
from onelooker.models import Model
from onelooker.names import cells_over
from onelooker.problems import Problem
from onelooker.standing import has_model
from slow import random_certificate_rows, random_problem, refutations

NAMES = ("a", "b")
SAME, SIZE_1, SIZE_2 = same("a", "b"), size_at_most(1), size_at_most(2)
AB, BA, AA = below("o", "a", "b"), below("o", "b", "a"), below("o", "a", "a")
P = word("r", "p")
TURN = turn("t", "a", "b", 1)
FA, FB = ("f", ("a",)), ("f", ("b",))
CARDS = {"o": ("below",), "r": ("rows", (((3, (0, 1)), ("p",)),)), "t": ("ring", 2)}
PROBLEM = Problem(NAMES, CARDS, {3: (SAME, AB), 12: (negated(AB),), 5: (negated(SAME), P)})
TRUE_SIZE = ((SIZE_1[0], False), SIZE_2)
ORDER = clause_of([negated(AB), negated(BA)])
GIVEN = [("given", 3), ("given", 12)]


def theory(owner, *literals):
    """A theory row."""
    return ("theory", owner, clause_of(literals))


class RightRowsTest(LookerCase):

    def right(self, wanted, *rows, problem=PROBLEM):
        """The last of the rows is right, and has this clause."""
        found = self.gives_rows(problem, Certificate(rows))
        self.assertEqual(repr(found[-1]), repr(wanted))
        self.assertEqual(len(found), len(rows))
        self.assertEqual(repr(check(problem, Certificate(list(rows)))), repr(wanted))

    def gives_rows(self, problem, certificate):
        before = certificate.rows
        found = row_clauses(problem, certificate)
        self.assertIs(type(found), list)
        self.assertIs(certificate.rows, before)
        return found

    def wrong(self, *rows, problem=PROBLEM):
        """The last of the rows is the first that is not right."""
        certificate = Certificate(rows)
        self.refuses(BadRow, {"index": len(rows) - 1}, row_clauses, problem, certificate)
        self.refuses(BadRow, {"index": len(rows) - 1}, check, problem, Certificate([*rows, ("given", 3), None]))
        self.assertIs(refutes(problem, certificate), False)

    def test_values_of_other_forms(self):
        for row in [None, True, 5, "given", "", (), [], {}, ["given", 3], ("given",), ("given", 3, 3), ("Given", 3),
                    (3, "given"), ("theory",), ("theory", "o"), ("theory", "o", ORDER, 1), ("theory", ORDER),
                    ("resolve",), ("resolve", 0, 1), ("resolve", 0, 1, AB[0], 1), (None,), ((),), ([], []),
                    ("shared", ORDER), (("given", 3),), ("given", 3, 3, 3), Certificate.given(3),
                    ("shared", "", TRUE_SIZE), (None, "o", ORDER), ("resolve", "o", ORDER), ("given", "o", ORDER),
                    ("Resolve", 0, 1, AB[0]), ("theory", 0, 1, AB[0]), ("label", 3), ("theory", 3), ("resolve", 3)]:
            self.wrong(*GIVEN, row)

    def test_given(self):
        self.right((SAME, AB), ("given", 3))
        self.right((negated(AB),), ("given", 12))
        for label in (1, 4, 0, -3, 1000, True, False, None, "3", (3,), [3], {}, 3.5):
            self.wrong(("given", 12), ("given", label))
        self.wrong(("given", 1), problem=Problem(NAMES, CARDS, {}))

    def test_true_is_no_label(self):
        problem = Problem.of(NAMES, (SAME,))
        self.right((SAME,), ("given", 1), problem=problem)
        self.wrong(("given", True), problem=problem)

    def test_theory(self):
        self.right(ORDER, theory("o", *ORDER))
        self.right((negated(AA),), theory("o", negated(AA)))
        self.right((P,), theory("r", P))
        self.right(clause_of([negated(SAME), negated(TURN)]), theory("t", negated(SAME), negated(TURN)))
        self.right(clause_of([AB, negated(AB)]), theory("o", AB, negated(AB)))
        problem = Problem.of(NAMES, e=("terms",), k=("kinds", (("k", 1), ("l", 0))))
        told = clause_of([negated(SAME), equal("e", FA, FB)])
        self.right(told, ("theory", "e", told), problem=problem)
        told = clause_of([SAME, negated(of_kind("k", "a", "k")), negated(of_kind("k", "b", "k"))])
        self.right(told, ("theory", "k", told), problem=problem)

    def test_shared_literals_alone(self):
        self.right(TRUE_SIZE, ("theory", "", TRUE_SIZE))
        self.right(TRUE_SIZE, ("theory", "o", TRUE_SIZE))
        self.right((negated(SAME),), theory("r", negated(SAME)))
        self.right((negated(SIZE_2),), theory("r", negated(SIZE_2)))
        for owner in ("", "o", "t"):
            self.wrong(theory(owner, negated(SAME)))
            self.wrong(theory(owner, SAME, SIZE_2))
        self.right(clause_of([SAME, negated(SIZE_1)]), theory("", SAME, negated(SIZE_1)))

    def test_clauses_whose_negations_fit_a_cell(self):
        for row in [theory("o", negated(AB)), theory("o", AB, BA), theory("r", negated(P)), theory("t", TURN, SAME),
                    theory("o"), theory(""), theory("r"), theory("t", negated(TURN)), theory("", SIZE_1, SIZE_2)]:
            self.wrong(row)

    def test_owners(self):
        for owner in ("x", "q", "O", None, True, 0, ("o",), ["o"], {}, "oo"):
            self.wrong(("theory", owner, TRUE_SIZE))
        self.wrong(("theory", "", ORDER))
        self.wrong(("theory", "t", ORDER))
        self.wrong(("theory", "o", clause_of([*ORDER, P])))
        self.wrong(("theory", "", clause_of([*TRUE_SIZE, P])))
        self.wrong(("theory", "x", ((("x", "below", "a", "a"), False),)))

    def test_values_that_are_no_clauses(self):
        low, high = ORDER
        for value in [None, 5, "clause", list(ORDER), {}, (high, low), (low, low, high), (low, high, high),
                      (TRUE_SIZE[1], TRUE_SIZE[0]), (*ORDER, None), (*ORDER, ()), (AB[0], BA[0]), ORDER[0],
                      (*ORDER, (BA[0], 1)), (*ORDER, (BA[0], 0)), ([AB[0], False], high), ((list(AB[0]), False), high),
                      (*ORDER, (("o", "below", "a", "c"), False)), (*ORDER, (("o", "word", "p"), False)),
                      ((("", "same", "b", "a"), False), *ORDER), ((("", "size", True), False), *TRUE_SIZE[1:]),
                      ((("", "size", 3), True), *ORDER), (*ORDER, ((), True)), (*ORDER, (([], []), True))]:
            self.wrong(("theory", "o", value))
        self.wrong(("theory", "t", ((("t", "turn", "a", "a", True), False),)))
        self.right(((("t", "turn", "a", "a", 1), False),), ("theory", "t", ((("t", "turn", "a", "a", 1), False),)))

    def test_resolve(self):
        self.right((SAME,), *GIVEN, ("resolve", 0, 1, AB[0]))
        self.right(clause_of([P, AB]), *GIVEN, ("given", 5), ("resolve", 0, 2, SAME[0]))
        self.right((P,), *GIVEN, ("given", 5), ("resolve", 0, 1, AB[0]), ("resolve", 3, 2, SAME[0]))

    def test_only_the_one_literal_of_each_clause_goes(self):
        torn = theory("", SIZE_1, negated(SIZE_1))
        self.right(torn[2], torn, ("resolve", 0, 0, SIZE_1[0]))
        self.right(TRUE_SIZE, torn, ("theory", "", TRUE_SIZE), ("resolve", 0, 1, SIZE_1[0]))

    def test_indexes(self):
        for first, second in [(2, 1), (0, 2), (0, 3), (-1, 1), (0, -1), (-2, -1), (False, 1), (0, True), (None, 1),
                              (0, "1"), ([], 1), (0, (1,)), (100, 1)]:
            self.wrong(*GIVEN, ("resolve", first, second, AB[0]))
        self.wrong(("resolve", 0, 0, AB[0]))

    def test_atoms_that_are_not_in_both_clauses(self):
        for atom in [SAME[0], BA[0], P[0], None, (), 5, "below", [*AB[0]], AB, negated(AB), ("o", "below", "a"), []]:
            self.wrong(*GIVEN, ("resolve", 0, 1, atom))
        self.wrong(*GIVEN, ("resolve", 1, 0, AB[0]))
        self.wrong(*GIVEN, ("resolve", 0, 0, AB[0]))
        self.wrong(*GIVEN, ("resolve", 1, 1, AB[0]))

    def test_atoms_that_contain_a_truth_value(self):
        problem = Problem.of(NAMES, (SIZE_1,), (negated(SIZE_1),), (TURN,), (negated(TURN),), t=("ring", 2))
        rows = [("given", label) for label in (1, 2, 3, 4)]
        self.right((), *rows, ("resolve", 0, 1, ("", "size", 1)), problem=problem)
        self.right((), *rows, ("resolve", 2, 3, ("t", "turn", "a", "b", 1)), problem=problem)
        self.wrong(*rows, ("resolve", 0, 1, ("", "size", True)), problem=problem)
        self.wrong(*rows, ("resolve", 2, 3, ("t", "turn", "a", "b", True)), problem=problem)

    def test_the_first_of_two_wrong_rows_is_told(self):
        for rows in [[None, None], [None, ("given", 3)], [("given", 4), ("theory", "x", ())]]:
            self.refuses(BadRow, {"index": 0}, row_clauses, PROBLEM, Certificate(rows))
            self.refuses(BadRow, {"index": 2}, check, PROBLEM, Certificate([*GIVEN, *rows]))

    def test_rows_may_be_used_more_than_once_and_by_other_rows_only(self):
        self.right((), *GIVEN, theory("o", negated(SAME), negated(AB)), ("given", 5), theory("r", negated(SAME)),
                   ("resolve", 0, 1, AB[0]), ("resolve", 5, 4, SAME[0]))


class CheckTest(LookerCase):

    def test_no_rows(self):
        self.refuses(BadRow, {"index": 0}, check, PROBLEM, Certificate([]))
        self.assertEqual(row_clauses(PROBLEM, Certificate([])), [])
        self.assertIs(refutes(PROBLEM, Certificate([])), False)
        self.assertIs(refutes(Problem.of(()), Certificate([])), False)

    def test_refutes(self):
        rows = [*GIVEN, theory("r", negated(SAME)), ("resolve", 0, 1, AB[0]), ("resolve", 3, 2, SAME[0])]
        self.assertIs(refutes(PROBLEM, Certificate(rows)), True)
        self.assertFalse(has_model(PROBLEM))
        for some in (rows[:4], [*rows, ("given", 3)], [None, *rows], rows[1:], [*rows, None]):
            self.assertIs(refutes(PROBLEM, Certificate(some)), False)

    def test_checker(self):
        checker = Checker(PROBLEM)
        self.assertIs(checker.problem, PROBLEM)
        self.assertEqual(checker(Certificate.given(3)), (SAME, AB))
        self.refuses(BadRow, {"index": 0}, checker, Certificate([]))
        self.refuses(BadRow, {"index": 1}, checker, Certificate([("given", 3), ("given", 4)]))

    def test_accepted_certificates(self):
        source = random.Random(120)
        resolved = 0
        for _ in range(150):
            problem = random_problem(source)
            rows, clauses = random_certificate_rows(source, problem)
            certificate = Certificate(rows)
            self.assertEqual(repr(row_clauses(problem, certificate)), repr(clauses))
            if rows:
                self.assertEqual(check(problem, certificate), clauses[-1])
                self.assertIs(refutes(problem, certificate), clauses[-1] == ())
            resolved += len([row for row in rows if row[0] == "resolve"])
        self.assertTrue(resolved > 100, resolved)

    def test_conclusions_hold_in_every_model(self):
        source = random.Random(121)
        for _ in range(100):
            problem = random_problem(source, forms=("rows", "kinds", "below", "ring"), most=2, width=2)
            _, clauses = random_certificate_rows(source, problem)
            for model in every_model(problem):
                self.assertTrue(all(model.meets(clause) for clause in clauses))

    def test_problems_whose_certificates_end_in_the_empty_clause_do_not_stand(self):
        for _, problem, rows in refutations(122, 60):
            self.assertIs(refutes(problem, Certificate(rows)), True)
            self.assertEqual(check(problem, Certificate(rows)), ())
            self.assertFalse(has_model(problem))


def every_model(problem):
    """All models that satisfy a problem without terms theories, with every own part at every cell."""
    for cell in cells_over(len(problem.names)):
        found = [{}]
        for owner in problem.owners:
            parts = all_parts(problem.card(owner), problem.names, [], cell)
            found = [{**chosen, owner: own} for chosen in found for own in parts]
        for own in found:
            model = Model(problem.names, problem.theories(), cell, own)
            if model.satisfies(problem):
                yield model
