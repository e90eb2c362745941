"""Points 2 and 3 across the modules: new lists, and truth values that are no integers."""

import unittest

from onelooker.asking import facts
from onelooker.belowfits import orders
from onelooker.cells import Cells
from onelooker.certificates import Certificate
from onelooker.chains import conclusions
from onelooker.checking import row_clauses
from onelooker.components import component_problems, components
from onelooker.conflicts import conflicts, corrections, hitting_sets
from onelooker.deciders import all_parts
from onelooker.equalterms import EqualTerms, closure
from onelooker.families import family, unit_sets
from onelooker.interpolants import row_sets
from onelooker.journal import journal_lines
from onelooker.literals import shared_literals
from onelooker.models import Model
from onelooker.names import cells_over, pairs, partitions
from onelooker.picks import least_units
from onelooker.policies import Policy
from onelooker.problems import Problem
from onelooker.propagating import propagate
from onelooker.rounds import Rounds
from onelooker.scanning import tokens
from onelooker.sessions import Session
from onelooker.settling import widest_points
from onelooker.telling import told_literals
from onelooker.typetables import own_atoms, type_rows

SIZE_1 = (("", "size", 1), True)
SESSION = Session((), {}, Policy())
ROUNDS = Rounds((), {"k": ("kinds", (("k", 1),))}, Policy(k=("size",)), [])


class NewListsTest(unittest.TestCase):

    def test_returned_lists_are_new(self):
        for call in [lambda: pairs(("a", "b")), lambda: partitions(2), lambda: partitions(0), lambda: cells_over(2),
                     lambda: shared_literals(("a", "b")), lambda: tokens("a b"), lambda: least_units([]),
                     lambda: conclusions([], [("still", ("a",))]), lambda: orders(2), lambda: unit_sets(("a",)),
                     lambda: all_parts(("ring", 2), ("a",), [], (1, (0,))), lambda: all_parts(None, (), [], (1, ())),
                     lambda: own_atoms("o", ("below",), ("a", "b")), lambda: type_rows("o", ("below",), ("a",)),
                     lambda: family("o", ("terms",), ("a", "b")),
                     lambda: row_clauses(Problem.of(()), Certificate([])),
                     lambda: told_literals(("size",), (), Cells(0, []), Cells.every(0)), ROUNDS.tellable,
                     lambda: widest_points((), {}, Policy(), []), lambda: facts(Problem.of((), (SIZE_1,))),
                     lambda: conflicts(Problem.of(())), lambda: corrections(Problem.of(())), lambda: hitting_sets([]),
                     lambda: components(Problem.of((), (SIZE_1,))),
                     lambda: component_problems(Problem.of((), (SIZE_1,))),
                     lambda: row_sets(Problem.of(()), Problem.of(()), Certificate([])), lambda: journal_lines(SESSION)]:
            first, second = call(), call()
            self.assertIs(type(first), list)
            self.assertIsNot(first, second)
            first.clear()
            self.assertEqual(call(), second)

    def test_returned_dicts_are_new(self):
        first = closure([], [("a",)])
        first.clear()
        self.assertEqual(closure([], [("a",)]), {("a",): ("a",)})
        model = Model((), {"o": ("below",)}, (1, ()), {"o": ()})
        model.theories().clear()
        self.assertEqual(model.theories(), {"o": ("below",)})

    def test_iterations_are_independent(self):
        literal = (("", "size", 1), True)
        for held in [Cells.every(2), Problem.of((), (literal,)), EqualTerms.of((1, ("a",), ("b",))),
                     propagate({}, [literal]), Certificate.given(1), Policy(a=("same",))]:
            first, second = iter(held), iter(held)
            self.assertEqual(next(first), next(second))
            self.assertEqual(len(list(held)), len(held))

