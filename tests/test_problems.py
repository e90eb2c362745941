import copy

from helper import LookerCase
from onelooker.errors import (BadCard, BadClause, BadLabel, BadLiteral, BadName, CardMismatch, NamesMismatch, NoLabel,
                              NoOwner, TakenLabel, TooMany)
from onelooker.literals import below, equal, negated, of_kind, same, size_at_most, turn, word
from onelooker.problems import Problem

NAMES = ("a", "b", "c")
A, B, C = ("a",), ("b",), ("c",)
ONE = (size_at_most(1),)
SAME = (same("a", "b"),)
WORDS = [word("o", f"w{number}") for number in range(9)]
ROWS = ("rows", (((3, ()), ("w",)),))
WRONG_LABELS = [0, 1000, -1, True, False, "1", None, (1,), 1.0]


def chain(many):
    """Literals of an owner e that contain so many different compound terms, all of depth 2."""
    functions = [f"f{number}" for number in range(many)]
    return [equal("e", A, (function, A)) for function in functions]


def grouped(literals):
    """Labeled clauses of at most eight literals each."""
    starts = range(0, len(literals), 8)
    return {label: tuple(literals[at:at + 8]) for label, at in enumerate(starts, start=1)}


class MakingTest(LookerCase):

    def test_a_problem_has_what_it_is_made_of(self):
        problem = Problem(NAMES, {"t": ("ring", 3), "o": ("below",)}, {7: ONE, 3: (below("o", "a", "b"), SAME[0])})
        self.assertEqual(repr((problem.names, problem.owners, problem.labels)), repr((NAMES, ("o", "t"), (3, 7))))
        self.assertEqual(list(problem.theories().items()), [("o", ("below",)), ("t", ("ring", 3))])
        self.assertEqual(list(problem.clauses().items()), [(3, (SAME[0], below("o", "a", "b"))), (7, ONE)])

    def test_the_least_problem(self):
        problem = Problem((), {}, {})
        self.assertEqual(repr((problem.names, problem.owners, problem.labels)), "((), (), ())")
        self.assertEqual((problem.theories(), problem.clauses(), problem.atoms(), len(problem)), ({}, {}, (), 0))

    def test_a_clause_is_stored_sorted_and_without_duplicates(self):
        given = (below("o", "b", "a"), SAME[0], negated(SAME[0]), below("o", "b", "a"))
        problem = Problem(NAMES, {"o": ("below",)}, {1: given})
        self.assertEqual(repr(problem[1]), repr((negated(SAME[0]), SAME[0], below("o", "b", "a"))))

    def test_of_labels_the_clauses(self):
        problem = Problem.of(("a", "b"), SAME, ONE, o=("below",), t=("ring", 2))
        self.assertEqual(problem, Problem(("a", "b"), {"o": ("below",), "t": ("ring", 2)}, {1: SAME, 2: ONE}))
        self.assertEqual(Problem.of(()), Problem((), {}, {}))
        self.refuses(BadClause, {"value": ()}, Problem.of, (), ONE, ())
        self.refuses(BadName, {"value": "O"}, Problem.of, (), O=("below",))

    def test_arguments_stay_and_may_change_later(self):
        theories, clauses = {"t": ("ring", 3), "o": ("below",)}, {7: ONE * 2, 3: SAME}
        before = copy.deepcopy((theories, clauses))
        problem = Problem(NAMES, theories, clauses)
        self.assertEqual((theories, clauses), before)
        self.assertEqual((list(theories), list(clauses)), (["t", "o"], [7, 3]))
        theories.clear()
        clauses[3] = ONE
        clauses[9] = ONE
        self.assertEqual(problem, Problem(NAMES, {"t": ("ring", 3), "o": ("below",)}, {7: ONE, 3: SAME}))

    def test_returned_dicts_are_new(self):
        problem = Problem.of(NAMES, ONE, o=("below",))
        problem.theories().clear()
        problem.clauses()[1] = SAME
        self.assertEqual(problem, Problem.of(NAMES, ONE, o=("below",)))
        self.assertEqual(problem.theories(), {"o": ("below",)})
        self.assertEqual(problem.clauses(), {1: ONE})


class RefusingTest(LookerCase):

    def test_names(self):
        self.refuses(BadName, {"value": ["a"]}, Problem, ["a"], {}, {})
        self.refuses(BadName, {"value": "A"}, Problem, ("b", "A"), {}, {})
        self.refuses(BadName, {"value": ("b", "a")}, Problem, ("b", "a"), {}, {})

    def test_owners_in_the_order_of_the_dict(self):
        for owner in ["O", "", "oo", "o1234", "o\n", 1, None, ("o",), True]:
            theories = {"z": ("wrong",), owner: ("below",), "A": ("below",), "a": 1}
            self.refuses(BadName, {"value": owner}, Problem, (), theories, {})

    def test_at_most_three_owners(self):
        theories = {"a": ("below",), "b": ("terms",), "c": ("ring", 2)}
        self.assertEqual(Problem((), theories, {}).owners, ("a", "b", "c"))
        self.refuses(TooMany, {"what": "owners"}, Problem, (), {**theories, "d": ("wrong",)}, {})

    def test_cards_in_the_order_of_the_owners(self):
        theories = {"z": ("wrong", 1), "b": ("wrong", 2), "a": ("below",)}
        self.refuses(BadCard, {"value": ("wrong", 2)}, Problem, (), theories, {"wrong": None})
        self.refuses(BadCard, {"value": ROWS}, Problem, ("a",), {"r": ROWS}, {})

    def test_labels_in_the_order_of_the_dict(self):
        for label in WRONG_LABELS:
            self.refuses(BadLabel, {"value": label}, Problem, (), {}, {5: (), label: ONE, "x": ONE})
        for label in (1, 999):
            self.assertEqual(Problem((), {}, {label: ONE}).labels, (label,))

    def test_at_most_forty_clauses(self):
        self.assertEqual(len(Problem((), {}, {label: ONE for label in range(1, 41)})), 40)
        self.refuses(TooMany, {"what": "clauses"}, Problem, (), {}, {label: () for label in range(1, 42)})
        self.refuses(BadLabel, {"value": 0}, Problem, (), {}, {label: () for label in range(41, -1, -1)})

    def test_clauses_are_tuples_and_not_empty(self):
        for value in [(), [], list(ONE), None, 1, True, "size <= 1", {}, frozenset(ONE)]:
            self.refuses(BadClause, {"value": value}, Problem, (), {}, {2: value, 1: ONE})

    def test_the_first_wrong_literal_is_told(self):
        wrong = (("o", "below", "a", "d"), True)
        literals = (SAME[0], wrong, (("x", "below", "a", "b"), True))
        self.refuses(BadLiteral, {"value": wrong}, Problem, NAMES, {"o": ("below",)}, {1: literals})
        self.refuses(NoOwner, {"owner": "x"}, Problem, NAMES, {"o": ("below",)}, {1: literals[::-1]})
        self.refuses(BadLiteral, {"value": ("", "size", 1)}, Problem, (), {}, {1: ONE[0]})
        self.refuses(BadLiteral, {"value": (("", ["size"]), True)}, Problem, (), {}, {1: ((("", ["size"]), True),)})

    def test_at_most_eight_literals(self):
        theories = {"o": ROWS}
        self.assertEqual(len(Problem((), theories, {1: tuple(WORDS[:8] * 2)})[1]), 8)
        self.refuses(BadClause, {"value": tuple(WORDS)}, Problem, (), theories, {1: tuple(WORDS)})
        wrong = (*WORDS, (("", "size", 3), True))
        self.refuses(BadLiteral, {"value": wrong[-1]}, Problem, (), theories, {1: wrong})

    def test_clauses_in_the_order_of_the_labels(self):
        nine, wrong = tuple(WORDS), (("", "size", True), False)
        self.refuses(BadClause, {"value": nine}, Problem, (), {"o": ROWS}, {9: (), 5: (wrong,), 3: nine})
        self.refuses(BadLiteral, {"value": wrong}, Problem, (), {"o": ROWS}, {9: (), 5: nine, 3: (wrong,)})
        self.refuses(BadClause, {"value": ()}, Problem, (), {"o": ROWS}, {9: nine, 5: (wrong,), 3: ()})

    def test_at_most_forty_compound_terms(self):
        theories = {"e": ("terms",)}
        self.assertEqual(len(Problem(NAMES, theories, grouped(chain(40)))), 5)
        self.refuses(TooMany, {"what": "terms"}, Problem, NAMES, theories, grouped(chain(41)))

    def test_subterms_count_as_terms(self):
        inner = equal("e", A, ("g", ("f39", A), ("h", B)))
        theories = {"e": ("terms",)}
        Problem(NAMES, theories, grouped(chain(38) + [equal("e", A, ("g", ("f0", A), ("h", B)))]))
        self.refuses(TooMany, {"what": "terms"}, Problem, NAMES, theories, grouped(chain(38) + [inner]))

    def test_the_terms_of_both_sides_count(self):
        theories = {"e": ("terms",)}
        both = equal("e", ("g", A), ("h", A))
        self.assertEqual(len(Problem(NAMES, theories, grouped(chain(38) + [both]))), 5)
        self.refuses(TooMany, {"what": "terms"}, Problem, NAMES, theories, grouped(chain(39) + [both]))

    def test_terms_that_occur_again_count_once(self):
        theories = {"d": ("terms",), "e": ("terms",)}
        again = [equal("d", *literal[0][2:]) for literal in chain(40)]
        self.assertEqual(len(Problem(NAMES, theories, grouped(chain(40) + again))), 10)
        more = [equal("e", B, ("f0", A)), equal("e", ("f0", A), ("f1", A)), equal("d", C, ("f39", A))]
        self.assertEqual(len(Problem(NAMES, theories, grouped(chain(40) + more))), 6)
        for term in [("f1", B), ("f0", A, A)]:
            clauses = grouped(chain(40) + [equal("d", C, term)])
            self.refuses(TooMany, {"what": "terms"}, Problem, NAMES, theories, clauses)

    def test_a_wrong_clause_is_told_before_the_terms(self):
        clauses = {**grouped(chain(41)), 999: ()}
        self.refuses(BadClause, {"value": ()}, Problem, NAMES, {"e": ("terms",)}, clauses)

    def test_the_order_of_the_errors(self):
        names, theories = ("b", "A"), {"O": 1, "p": 1, "q": 1, "r": 1}
        clauses = {label: 1 for label in range(41, -1, -1)}
        self.refuses(BadName, {"value": "A"}, Problem, names, theories, clauses)
        self.refuses(BadName, {"value": "O"}, Problem, (), theories, clauses)
        theories["o"] = theories.pop("O")
        self.refuses(TooMany, {"what": "owners"}, Problem, (), theories, clauses)
        del theories["o"]
        self.refuses(BadCard, {"value": 1}, Problem, (), theories, clauses)
        self.refuses(BadLabel, {"value": 0}, Problem, (), {}, clauses)
        del clauses[0]
        self.refuses(TooMany, {"what": "clauses"}, Problem, (), {}, clauses)
        del clauses[1]
        self.refuses(BadClause, {"value": 1}, Problem, (), {}, clauses)


class AskingTest(LookerCase):

    def setUp(self):
        clauses = {20: SAME, 3: ONE, 100: (below("o", "c", "a"),)}
        self.problem = Problem(NAMES, {"t": ("ring", 3), "o": ("below",)}, clauses)

    def test_length_iteration_and_membership(self):
        self.assertEqual(len(self.problem), 3)
        self.assertEqual(list(self.problem), [3, 20, 100])
        self.assertEqual((20 in self.problem, 21 in self.problem), (True, False))

    def test_clauses_by_label(self):
        self.gives(SAME, lambda: self.problem[20])
        for label in (1, 0, 21, 1000):
            self.refuses(NoLabel, {"label": label}, lambda: self.problem[label])

    def test_equality(self):
        clauses = {3: ONE * 2, 100: (below("o", "c", "a"),), 20: SAME}
        again = Problem(NAMES, {"o": ("below",), "t": ("ring", 3)}, clauses)
        self.assertTrue(self.problem == again)
        self.assertFalse(self.problem != again)
        for other in [self.problem.drop(3), self.problem.put(4, ONE), self.problem.drop(3).put(4, ONE),
                      self.problem.drop(3).put(3, SAME), self.problem + Problem(NAMES, {"z": ("below",)}, {}),
                      Problem(NAMES, {"o": ("below",), "t": ("ring", 2)}, self.problem.clauses()), None, 3]:
            self.assertFalse(self.problem == other)
        self.assertFalse(Problem(("a",), {}, {}) == Problem((), {}, {}))

    def test_cards(self):
        self.gives(("ring", 3), self.problem.card, "t")
        for owner in ("x", "", "T"):
            self.refuses(NoOwner, {"owner": owner}, self.problem.card, owner)

    def test_atoms(self):
        clauses = {2: (negated(SAME[0]), below("o", "b", "a")), 1: (below("o", "a", "b"), SAME[0]), 3: ONE}
        problem = Problem(NAMES, {"o": ("below",)}, clauses)
        wanted = (SAME[0][0], ONE[0][0], below("o", "a", "b")[0], below("o", "b", "a")[0])
        self.gives(wanted, problem.atoms)


class ChangingTest(LookerCase):

    def setUp(self):
        self.problem = Problem(NAMES, {"o": ("below",)}, {1: SAME, 999: ONE})
        self.before = copy.deepcopy(self.problem)

    def tearDown(self):
        self.assertEqual(self.problem, self.before)

    def test_put(self):
        found = self.problem.put(7, (below("o", "a", "b"), SAME[0], SAME[0]))
        clauses = {1: SAME, 7: (SAME[0], below("o", "a", "b")), 999: ONE}
        self.assertEqual(found, Problem(NAMES, {"o": ("below",)}, clauses))
        self.assertEqual(found.labels, (1, 7, 999))

    def test_put_refuses(self):
        for label in [*WRONG_LABELS, [1], {}]:
            self.refuses(BadLabel, {"value": label}, self.problem.put, label, ())
        for label in (1, 999):
            self.refuses(TakenLabel, {"label": label}, self.problem.put, label, ())
        for value in [(), list(ONE)]:
            self.refuses(BadClause, {"value": value}, self.problem.put, 2, value)
        self.refuses(NoOwner, {"owner": "x"}, self.problem.put, 2, (below("x", "a", "b"),))

    def test_put_keeps_the_limits(self):
        full = Problem(NAMES, {"e": ("terms",)}, {label: ONE for label in range(1, 41)})
        self.refuses(TooMany, {"what": "clauses"}, full.put, 41, ())
        self.refuses(TakenLabel, {"label": 40}, full.put, 40, ())
        terms = Problem(NAMES, {"e": ("terms",)}, grouped(chain(40)))
        self.refuses(TooMany, {"what": "terms"}, terms.put, 41, (equal("e", A, ("g", A)),))

    def test_drop(self):
        self.assertEqual(self.problem.drop(999), Problem(NAMES, {"o": ("below",)}, {1: SAME}))
        self.assertEqual(self.problem.drop(1).drop(999), Problem(NAMES, {"o": ("below",)}, {}))
        for label in (2, 0, 1000):
            self.refuses(NoLabel, {"label": label}, self.problem.drop, label)

    def test_only(self):
        self.assertEqual(self.problem.only([999]), self.problem.drop(1))
        self.assertEqual(self.problem.only((999, 1, 999)), self.problem)
        self.assertEqual(self.problem.only(()), Problem(NAMES, {"o": ("below",)}, {}))
        self.refuses(NoLabel, {"label": 5}, self.problem.only, [1, 5, 4])

    def test_only_keeps_its_argument(self):
        self.gives(self.problem.only([1]).labels, lambda labels: self.problem.only(labels).labels, [1, 1])


class SumTest(LookerCase):

    def test_the_sum_has_the_theories_and_the_clauses_of_both(self):
        first = Problem(NAMES, {"o": ("below",), "t": ("ring", 2)}, {5: (below("o", "a", "b"),)})
        second = Problem(NAMES, {"t": ("ring", 2), "e": ("terms",)}, {7: SAME, 2: ONE})
        before = copy.deepcopy((first, second))
        wanted = Problem(NAMES, {"e": ("terms",), "o": ("below",), "t": ("ring", 2)},
                         {2: ONE, 5: (below("o", "a", "b"),), 7: SAME})
        self.assertEqual(first + second, wanted)
        self.assertEqual(second + first, wanted)
        self.assertEqual((first, second), before)
        self.assertEqual(((first + second).owners, (first + second).labels), (("e", "o", "t"), (2, 5, 7)))

    def test_the_order_of_the_errors(self):
        first = Problem(NAMES, {"b": ("ring", 2), "c": ("below",)}, {4: ONE, 6: ONE})
        second = Problem(NAMES, {"c": ("terms",), "b": ("ring", 3)}, {6: ONE, 4: ONE})
        self.refuses(NamesMismatch, {}, lambda: first + second.renamed({"a": "d"}))
        self.refuses(CardMismatch, {"owner": "b"}, lambda: first + second)
        self.refuses(CardMismatch, {"owner": "c"}, lambda: first + Problem(NAMES, {"c": ("terms",)}, {4: ONE}))
        third = Problem(NAMES, {"c": ("below",)}, {6: ONE, 5: ONE, 4: ONE})
        self.refuses(TakenLabel, {"label": 4}, lambda: first + third)
        self.refuses(TakenLabel, {"label": 6}, lambda: first + Problem(NAMES, {}, {6: ONE, 5: ONE}))

    def test_the_sum_keeps_the_limits(self):
        card = ("below",)
        first = Problem((), {"a": card, "b": card}, {label: ONE for label in range(1, 21)})
        second = Problem((), {"c": card, "d": card}, {label: ONE for label in range(21, 42)})
        self.refuses(TooMany, {"what": "owners"}, lambda: first + second)
        self.refuses(TooMany, {"what": "clauses"}, lambda: first + Problem((), {"c": card}, second.clauses()))
        self.assertEqual(len(first + Problem((), {"c": card}, second.drop(41).clauses())), 40)
        terms = Problem(NAMES, {"e": ("terms",)}, grouped(chain(40)))
        more = Problem(NAMES, {"d": ("terms",)}, {9: (equal("d", A, ("g", A)),)})
        self.refuses(TooMany, {"what": "terms"}, lambda: terms + more)
        self.refuses(TakenLabel, {"label": 20}, lambda: first + Problem((), {"c": card, "d": card}, {20: ONE}))


class RenamingTest(LookerCase):

    def test_renaming_reaches_everything_over_the_names(self):
        old_rows = ("rows", (((2, (0, 0, 1)), ("a",)), ((3, (0, 1, 2)), ())))
        new_rows = ("rows", (((2, (0, 1, 1)), ("a",)), ((3, (0, 1, 2)), ())))
        old = Problem(NAMES, {"a": old_rows, "e": ("terms",), "t": ("ring", 3)},
                      {4: (same("a", "b"), word("a", "a"), turn("t", "a", "b", 1)),
                       2: (equal("e", C, ("a", A)), ONE[0])})
        new = Problem(("a", "b", "d"), {"a": new_rows, "e": ("terms",), "t": ("ring", 3)},
                      {4: (same("b", "d"), word("a", "a"), turn("t", "d", "b", 1)),
                       2: (equal("e", A, ("a", ("d",))), ONE[0])})
        mapping = {"a": "d", "c": "a", "e": "z", "t": "u"}
        self.assertEqual(old.renamed(mapping), new)
        self.assertEqual(mapping, {"a": "d", "c": "a", "e": "z", "t": "u"})
        self.assertEqual(new.renamed({"d": "a", "a": "c"}), old)
        self.assertEqual(old.renamed({}), old)

    def test_kinds_and_below(self):
        theories = {"k": ("kinds", (("a", 1), ("b", 1))), "o": ("below",)}
        apart = negated(same("a", "b"))
        old = Problem(("a", "b"), theories, {1: (of_kind("k", "a", "b"), below("o", "a", "b"), apart)})
        new = Problem(("a", "b"), theories, {1: (of_kind("k", "b", "b"), below("o", "b", "a"), apart)})
        self.assertEqual(old.renamed({"a": "b", "b": "a"}), new)

    def test_wrong_new_names(self):
        problem = Problem(("a", "b"), {}, {})
        self.refuses(BadName, {"value": ("b", "b")}, problem.renamed, {"a": "b"})
        self.refuses(BadName, {"value": ("z", "z")}, problem.renamed, {"a": "z", "b": "z"})
        self.refuses(BadName, {"value": "Z"}, problem.renamed, {"b": "Z"})
        self.refuses(BadName, {"value": "A"}, problem.renamed, {"a": "b1234", "b": "A"})
        self.assertEqual(problem.renamed({"x": "A", "y": "b"}), problem)
