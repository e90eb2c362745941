import itertools

from helper import LookerCase
from onelooker import names
from onelooker.errors import BadCell, BadName
from onelooker.names import (block_count, cells_over, check_cell, check_names, is_name, marked, meet, pairs,
                             partitions, renamed_marks)

NO_NAMES = ["", "A", "aB", "Ab", "1", "1a", "a1234", "ab", "a1b", "a\n", "a1\n", "\na", " a", "a ", "a_", "\u00e9",
            "a\u0661", "a\u00b2", "aa", "-", "a-1", None, True, False, 1, 0, b"a", ("a",), ["a"], {}, {"a"}]


class NamesTest(LookerCase):

    def test_the_constants(self):
        self.assertEqual(repr((names.MOST_NAMES, names.ENDLESS)), "(3, 3)")

    def test_names_are_a_letter_and_up_to_three_digits(self):
        for value in ["a", "z", "m", "a0", "z9", "b00", "q42", "a000", "z999", "x100"]:
            self.gives(True, is_name, value)

    def test_everything_else_is_no_name(self):
        for value in NO_NAMES:
            self.gives(False, is_name, value)

    def test_every_single_sign(self):
        letters = [chr(code) for code in range(1000) if is_name(chr(code))]
        digits = [chr(code) for code in range(1000) if is_name("a" + chr(code))]
        self.assertEqual("".join(letters), "abcdefghijklmnopqrstuvwxyz")
        self.assertEqual("".join(digits), "0123456789")

    def test_names_that_a_problem_may_have(self):
        for value in [(), ("a",), ("a", "b"), ("a", "b", "c"), ("a", "a1", "a10"), ("a10", "a2", "b")]:
            self.gives(None, check_names, value)

    def test_names_are_a_tuple(self):
        for value in [["a", "b"], [], "ab", "a", None, {"a": 1}, 3, True]:
            self.refuses(BadName, {"value": value}, check_names, value)

    def test_the_first_item_that_is_no_name_is_told(self):
        for value in NO_NAMES:
            self.refuses(BadName, {"value": value}, check_names, ("a", value, "B"))
            self.refuses(BadName, {"value": value}, check_names, (value,))

    def test_a_wrong_item_is_told_before_the_order_and_the_number(self):
        self.refuses(BadName, {"value": "B"}, check_names, ("c", "a", "B"))
        self.refuses(BadName, {"value": "E"}, check_names, ("a", "b", "c", "d", "E"))

    def test_names_ascend_without_duplicates(self):
        for value in [("b", "a"), ("a", "a"), ("a", "b", "b"), ("a", "c", "b"), ("a2", "a10")]:
            self.refuses(BadName, {"value": value}, check_names, value)

    def test_there_are_at_most_three_names(self):
        value = ("a", "b", "c", "d")
        self.refuses(BadName, {"value": value}, check_names, value)

    def test_pairs(self):
        self.gives([], pairs, ())
        self.gives([], pairs, ("a",))
        self.gives([("a", "b")], pairs, ("a", "b"))
        self.gives([("a", "b"), ("a", "c"), ("b", "c")], pairs, ("a", "b", "c"))


class PartitionsTest(LookerCase):

    def test_marks_are_numbered_by_first_occurrence(self):
        self.gives((), marked, [])
        self.gives((), marked, ())
        self.gives((0, 1, 0), marked, ["x", "y", "x"])
        self.gives((0, 1, 0, 2), marked, (7, 3, 7, 5))
        self.gives((0, 0, 1), marked, [("a", 1), ("a", 1), ("a", (1, "b"))])
        self.gives((0, 1, 2, 1), marked, (2, 1, 0, 1))

    def test_marks_of_many_keys(self):
        keys = [number // 2 for number in range(20000)]
        self.assertEqual(marked(keys), tuple(keys))

    def test_block_count(self):
        for marks, count in [((), 0), ((0,), 1), ((0, 0), 1), ((0, 1, 0), 2), ((0, 1, 2, 3, 4, 5), 6)]:
            self.gives(count, block_count, marks)

    def test_partitions(self):
        self.gives([()], partitions, 0)
        self.gives([(0,)], partitions, 1)
        self.gives([(0, 0), (0, 1)], partitions, 2)
        self.gives([(0, 0, 0), (0, 0, 1), (0, 1, 0), (0, 1, 1), (0, 1, 2)], partitions, 3)

    def test_partitions_are_all_marks(self):
        for count, many in enumerate([1, 1, 2, 5, 15, 52, 203]):
            tried = itertools.product(range(count), repeat=count)
            wanted = sorted(marks for marks in tried if marks == marked(marks))
            self.assertEqual(self.gives(wanted, partitions, count), wanted)
            self.assertEqual(len(wanted), many)

    def test_meet(self):
        self.gives((), meet, (), ())
        self.gives((0, 1, 2), meet, (0, 0, 1), (0, 1, 0))
        self.gives((0, 0, 1), meet, (0, 0, 0), (0, 0, 1))
        self.gives((0, 1, 1), meet, (0, 1, 1), (0, 1, 1))

    def test_a_meet_puts_two_names_together_if_both_do(self):
        for first in partitions(5):
            for second in partitions(5)[::3]:
                met = meet(first, second)
                self.assertEqual(met, marked(met))
                for one, two in itertools.combinations(range(5), 2):
                    both = first[one] == first[two] and second[one] == second[two]
                    self.assertEqual(met[one] == met[two], both)


class CellsOverTest(LookerCase):

    def test_cells(self):
        self.gives([(1, ()), (2, ()), (3, ())], cells_over, 0)
        self.gives([(1, (0,)), (2, (0,)), (3, (0,))], cells_over, 1)
        self.gives([(1, (0, 0)), (2, (0, 0)), (2, (0, 1)), (3, (0, 0)), (3, (0, 1))], cells_over, 2)
        self.gives([(1, (0, 0, 0)), (2, (0, 0, 0)), (2, (0, 0, 1)), (2, (0, 1, 0)), (2, (0, 1, 1)),
                    (3, (0, 0, 0)), (3, (0, 0, 1)), (3, (0, 1, 0)), (3, (0, 1, 1)), (3, (0, 1, 2))], cells_over, 3)

    def test_every_cell_is_a_cell_for_its_count_alone(self):
        for count in range(4):
            for cell in cells_over(count):
                self.gives(None, check_cell, cell, count)
                for other in range(4):
                    if other != count:
                        self.refuses(BadCell, {"value": cell}, check_cell, cell, other)

    def test_what_is_no_cell(self):
        wrong = [(0, (0, 0)), (4, (0, 0)), (-1, (0, 0)), (1, (0, 1)), (3, (1, 0)), (3, (0, 2)), (3, (1, 1)),
                 (3, (0, -1)), (3, (0,)), (3, (0, 0, 0)), (3, [0, 0]), [3, (0, 0)], (3, (0, 0), 0), (3,), (),
                 (True, (0, 0)), (3, (False, 0)), (3, (0, False)), (3, (0, True)), ("3", (0, 0)), (3, "00"),
                 (3, ("0", "0")), (3, None), (None, (0, 0)), None, True, 3, "cell", (3, ([], [])), ([], (0, 0)),
                 (3, (0.0, 0)), (3.0, (0, 0))]
        for value in wrong:
            self.refuses(BadCell, {"value": value}, check_cell, value, 2)

    def test_three_blocks_need_endlessly_many_things(self):
        for size in (1, 2):
            self.refuses(BadCell, {"value": (size, (0, 1, 2))}, check_cell, (size, (0, 1, 2)), 3)
        self.gives(None, check_cell, (3, (0, 1, 2)), 3)

    def test_a_truth_value_is_no_size_over_no_names(self):
        self.refuses(BadCell, {"value": (True, ())}, check_cell, (True, ()), 0)
        self.gives(None, check_cell, (1, ()), 0)

    def test_sizes_are_from_one_to_three(self):
        for size in (-1, 0, 4):
            self.refuses(BadCell, {"value": (size, ())}, check_cell, (size, ()), 0)


class RenamedMarksTest(LookerCase):

    def test_names_are_sorted_again(self):
        self.gives((0, 1, 1), renamed_marks, ("a", "b", "c"), (0, 0, 1), {"c": "a", "a": "c"})
        self.gives((0, 0, 1), renamed_marks, ("a", "b", "c"), (0, 1, 1), {"a": "x"})

    def test_names_without_an_entry_stay(self):
        self.gives((0, 1, 0), renamed_marks, ("a", "b", "c"), (0, 1, 0), {})
        self.gives((0, 1, 0), renamed_marks, ("a", "b", "c"), (0, 1, 0), {"x": "a0", "y": "b"})
        self.gives((), renamed_marks, (), (), {"a": "b"})

    def test_the_same_names_stay_together(self):
        old, new = ("a", "b", "c"), ("c5", "a", "b")
        mapping = dict(zip(old, new))
        for marks in partitions(3):
            found = dict(zip(sorted(new), renamed_marks(old, marks, mapping)))
            for one, two in itertools.combinations(range(3), 2):
                self.assertEqual(found[new[one]] == found[new[two]], marks[one] == marks[two])
