import itertools

from helper import LookerCase
from onelooker.cells import Cells
from onelooker.errors import BadCell, NamesMismatch
from onelooker.literals import negated, same, shared_literals, size_at_most
from onelooker.names import cells_over

SOME = [(3, (0, 1)), (1, (0, 0)), (3, (0, 1)), (2, (0, 0))]


def sets_over(width):
    """Many sets of cells over some names, as sets of Python."""
    every = cells_over(width)
    return [{cell for at, cell in enumerate(every) if number >> at & 1} for number in range(2 ** len(every))]


class MakingTest(LookerCase):

    def test_rows_are_ascending_and_different(self):
        cells = Cells(2, SOME)
        self.assertEqual(cells.width, 2)
        self.assertEqual(repr(cells.rows), repr(((1, (0, 0)), (2, (0, 0)), (3, (0, 1)))))
        self.assertEqual(Cells(2, tuple(SOME)), cells)
        self.assertEqual(Cells(0, []).rows, ())

    def test_the_first_item_that_is_no_cell_is_told(self):
        for value in [(1, (0, 1)), [3, (0, 1)], (3, (0,)), (True, (0, 0)), (3, (0, True)), None, "cell", (3, [0, 1])]:
            self.refuses(BadCell, {"value": value}, Cells, 2, [(3, (0, 1)), value, (9, (0, 0))])

    def test_the_argument_stays_and_may_change_later(self):
        rows = list(SOME)
        cells = Cells(2, rows)
        self.assertEqual(rows, SOME)
        rows.append((3, (0, 0)))
        rows[1] = None
        self.assertEqual(cells.rows, ((1, (0, 0)), (2, (0, 0)), (3, (0, 1))))

    def test_every(self):
        for width in range(4):
            self.assertEqual(Cells.every(width), Cells(width, cells_over(width)))
            self.assertEqual(len(Cells.every(width)), [3, 3, 5, 10][width])

    def test_where(self):
        self.assertEqual(Cells.where(("a", "b"), []), Cells.every(2))
        self.assertEqual(Cells.where((), (size_at_most(2), negated(size_at_most(1)))), Cells(0, [(2, ())]))
        self.assertEqual(Cells.where(("a", "b"), [same("a", "b")]), Cells(2, [(1, (0, 0)), (2, (0, 0)), (3, (0, 0))]))
        self.assertEqual(Cells.where(("a", "b"), [negated(same("a", "b")), size_at_most(1)]), Cells(2, []))

    def test_where_all_literals_hold(self):
        names = ("a", "b", "c")
        for one, two in itertools.combinations(shared_literals(names), 2):
            self.assertEqual(Cells.where(names, [one, two]), Cells.where(names, [one]) & Cells.where(names, [two]))


class AskingTest(LookerCase):

    def test_equality(self):
        self.assertTrue(Cells(2, SOME) == Cells(2, SOME[::-1]))
        self.assertFalse(Cells(2, SOME) != Cells(2, SOME))
        self.assertFalse(Cells(2, SOME) == Cells(2, SOME[:1]))
        self.assertFalse(Cells(0, []) == Cells(1, []))
        self.assertFalse(Cells(0, []) == ())
        self.assertTrue(Cells(0, []) != None)  # noqa: E711

    def test_length_iteration_and_membership(self):
        cells = Cells(2, SOME)
        self.assertEqual(len(cells), 3)
        self.assertEqual(list(cells), [(1, (0, 0)), (2, (0, 0)), (3, (0, 1))])
        self.assertEqual(list(cells), list(cells))
        self.assertTrue((3, (0, 1)) in cells)
        self.assertFalse((3, (0, 0)) in cells)
        self.assertFalse((3, ()) in cells)
        self.assertEqual((len(Cells(3, [])), list(Cells(3, []))), (0, []))

    def test_within(self):
        for one, two in itertools.product(sets_over(1), repeat=2):
            self.gives(one <= two, Cells.within, Cells(1, sorted(one)), Cells(1, sorted(two)))

    def test_meet_marks(self):
        self.gives(None, Cells(2, []).meet_marks)
        self.gives((), Cells.every(0).meet_marks)
        self.gives((0, 0, 1), Cells(3, [(2, (0, 0, 1))]).meet_marks)
        self.gives((0, 0, 1), Cells(3, [(2, (0, 0, 1)), (1, (0, 0, 0))]).meet_marks)
        self.gives((0, 1, 2), Cells(3, [(2, (0, 0, 1)), (3, (0, 1, 1))]).meet_marks)
        self.gives((0, 0), Cells(2, [(1, (0, 0)), (3, (0, 0))]).meet_marks)

    def test_has_marks(self):
        cells = Cells(2, [(3, (0, 1)), (2, (0, 1))])
        self.gives(True, cells.has_marks, (0, 1))
        self.gives(False, cells.has_marks, (0, 0))
        self.gives(False, Cells(2, []).has_marks, (0, 1))


class JoiningTest(LookerCase):

    def test_the_signs_are_those_of_sets(self):
        for width in (0, 2):
            every = set(cells_over(width))
            for one, two in itertools.product(sets_over(width), repeat=2):
                first, second = Cells(width, sorted(one)), Cells(width, sorted(two))
                self.assertEqual(first & second, Cells(width, sorted(one & two)))
                self.assertEqual(first | second, Cells(width, sorted(one | two)))
                self.assertEqual(first - second, Cells(width, sorted(one - two)))
                self.assertEqual(~first, Cells(width, sorted(every - one)))
                self.assertEqual((first.rows, second.rows), (tuple(sorted(one)), tuple(sorted(two))))

    def test_the_results_are_cells_of_the_width(self):
        first, second = Cells(3, [(3, (0, 1, 2))]), Cells.every(3)
        for found in (first & second, first | second, first - second, ~first):
            self.assertIs(type(found), Cells)
            self.assertEqual(found.width, 3)

    def test_the_widths_must_be_equal(self):
        first, second = Cells.every(1), Cells(2, [])
        for call in (lambda: first & second, lambda: first | second, lambda: first - second,
                     lambda: second - first, lambda: first.within(second), lambda: second.within(first)):
            self.refuses(NamesMismatch, {}, call)
