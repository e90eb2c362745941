"""Points 2 and 3 across the modules: new lists, and truth values that are no integers."""

import unittest

from onelooker.cells import Cells
from onelooker.chains import conclusions
from onelooker.equalterms import EqualTerms, closure
from onelooker.literals import shared_literals
from onelooker.names import cells_over, pairs, partitions
from onelooker.picks import least_units
from onelooker.problems import Problem
from onelooker.propagating import propagate
from onelooker.scanning import tokens


class NewListsTest(unittest.TestCase):

    def test_returned_lists_are_new(self):
        for call in [lambda: pairs(("a", "b")), lambda: partitions(2), lambda: partitions(0), lambda: cells_over(2),
                     lambda: shared_literals(("a", "b")), lambda: tokens("a b"), lambda: least_units([]),
                     lambda: conclusions([], [("still", ("a",))])]:
            first, second = call(), call()
            self.assertIs(type(first), list)
            self.assertIsNot(first, second)
            first.clear()
            self.assertEqual(call(), second)

    def test_returned_dicts_are_new(self):
        first = closure([], [("a",)])
        first.clear()
        self.assertEqual(closure([], [("a",)]), {("a",): ("a",)})

    def test_iterations_are_independent(self):
        literal = (("", "size", 1), True)
        for held in [Cells.every(2), Problem.of((), (literal,)), EqualTerms.of((1, ("a",), ("b",))),
                     propagate({}, [literal])]:
            first, second = iter(held), iter(held)
            self.assertEqual(next(first), next(second))
            self.assertEqual(len(list(held)), len(held))

