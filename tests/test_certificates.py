from helper import LookerCase
from onelooker.certificates import Certificate
from onelooker.errors import BadRow
from onelooker.literals import negated, size_at_most

ATOM = ("", "size", 1)
CLAUSE = ((ATOM, False), (ATOM, True))
GIVEN, THEORY = ("given", 12), ("theory", "", CLAUSE)
ROWS = [GIVEN, THEORY, ("resolve", 0, 1, ATOM)]
ODD = [None, 7, "resolve", [], (), ["resolve", 0, 1, ATOM], ("resolve",), ("resolve", 0, 1), ("resolve", 0, 1, 2, 3),
       ("resolve", True, 1, ATOM), ("resolve", 0, False, ATOM), ("resolve", None, 1, ATOM), ("resolve", 0, "1", ATOM),
       ("Resolve", 0, 1, ATOM), ("given", 1, 2, 3), ("given", 1), ("theory", 1, 2), (1, 2, 3, 4), (None, 0, 1, ATOM)]


class CertificateTest(LookerCase):

    def test_rows(self):
        for rows in (ROWS, tuple(ROWS), [], ODD):
            certificate = Certificate(rows)
            self.assertEqual(repr(certificate.rows), repr(tuple(rows)))
            self.assertEqual(len(certificate), len(rows))
            self.assertEqual(list(certificate), list(rows))
            self.assertEqual(certificate.last, len(rows) - 1)

    def test_the_argument_may_change_later(self):
        rows = list(ROWS)
        certificate = Certificate(rows)
        rows.pop()
        rows[0] = None
        self.assertEqual(certificate.rows, tuple(ROWS))

    def test_equality(self):
        self.assertEqual(Certificate(ROWS), Certificate(tuple(ROWS)))
        self.assertEqual(Certificate([]), Certificate(()))
        self.assertFalse(Certificate(ROWS) != Certificate(ROWS))
        for other in [Certificate(ROWS[:2]), Certificate(ROWS[::-1]), Certificate([]), tuple(ROWS), ROWS, None]:
            self.assertFalse(Certificate(ROWS) == other)
            self.assertTrue(Certificate(ROWS) != other)

    def test_items(self):
        certificate = Certificate(ROWS)
        for at, row in enumerate(ROWS):
            self.assertEqual(certificate[at], row)
        for at in (-1, 3, 100, True, False, None, "0", (0,)):
            self.refuses(BadRow, {"index": at}, lambda: certificate[at])
        self.refuses(BadRow, {"index": 0}, lambda: Certificate([])[0])

    def test_iterations_are_independent(self):
        certificate = Certificate(ROWS)
        first, second = iter(certificate), iter(certificate)
        self.assertEqual(next(first), next(second))
        self.assertEqual([first for first in certificate], ROWS)

    def test_one_row(self):
        self.assertEqual(Certificate.given(12).rows, (GIVEN,))
        self.assertEqual(Certificate.theory("", CLAUSE).rows, (THEORY,))
        self.assertEqual(Certificate.theory("o", ()).rows, (("theory", "o", ()),))
        self.assertEqual(repr(Certificate.given(True).rows), "(('given', True),)")

    def test_resolve_adds_a_row_and_checks_nothing(self):
        certificate = Certificate.given(1)
        self.assertEqual(certificate.resolve(0, 7, ATOM).rows, (("given", 1), ("resolve", 0, 7, ATOM)))
        self.assertEqual(certificate.resolve(True, None, 5).rows, (("given", 1), ("resolve", True, None, 5)))
        self.assertEqual(Certificate([]).resolve(0, 0, ATOM).rows, (("resolve", 0, 0, ATOM),))
        self.assertEqual(certificate, Certificate.given(1))


class SumTest(LookerCase):

    def check(self, wanted, first, second):
        left, right = Certificate(first), Certificate(second)
        found = left + right
        self.assertIs(type(found), Certificate)
        self.assertEqual(repr(found.rows), repr(tuple(wanted)))
        self.assertEqual((left.rows, right.rows), (tuple(first), tuple(second)))

    def test_indexes_of_the_second_are_increased(self):
        self.check([*ROWS, *ROWS[:2], ("resolve", 3, 4, ATOM)], ROWS, ROWS)
        self.check([GIVEN, GIVEN, ("resolve", 1, 1, ATOM)], [GIVEN], [GIVEN, ("resolve", 0, 0, ATOM)])
        self.check([GIVEN, ("resolve", -4, 8, ATOM)], [GIVEN], [("resolve", -5, 7, ATOM)])

    def test_without_rows(self):
        self.check(ROWS, [], ROWS)
        self.check(ROWS, ROWS, [])
        self.check([], [], [])

    def test_rows_that_are_no_resolve_rows_stay(self):
        self.check([*ROWS, *ODD], ROWS, ODD)
        self.check([*ODD, *ROWS[:2], ("resolve", len(ODD), len(ODD) + 1, ATOM)], ODD, ROWS)

    def test_the_fourth_item_does_not_matter(self):
        for atom in (None, 5, [1], negated(size_at_most(1))):
            self.check([GIVEN, ("resolve", 1, 2, atom)], [GIVEN], [("resolve", 0, 1, atom)])

    def test_sums_of_three(self):
        one = Certificate(ROWS)
        self.assertEqual((one + one) + one, one + (one + one))
        self.assertEqual((one + one + one)[8], ("resolve", 6, 7, ATOM))
