import itertools

from helper import LookerCase
from onelooker.errors import BadTerm
from onelooker.terms import check_term, depth, is_plain, renamed_term, subterms, term_names, term_rank

A, B, C = ("a",), ("b",), ("c",)


def nested(levels, term=A):
    """The term with so many functions f of one argument around it."""
    for _ in range(levels):
        term = ("f", term)
    return term


class CheckTermTest(LookerCase):

    def test_terms(self):
        for term in [A, ("z999",), ("f", A), ("f", A, A), ("f", A, B), ("g", ("f", A), ("f", A, B)), ("a", A)]:
            self.gives(None, check_term, term)

    def test_the_greatest_depth_is_four(self):
        self.gives(None, check_term, nested(3))
        self.gives(None, check_term, ("g", B, nested(2)))
        for term in [nested(4), ("g", B, nested(3)), ("g", nested(3), B), nested(3, ("g", A, A))]:
            self.refuses(BadTerm, {"value": term}, check_term, term)

    def test_what_is_no_term(self):
        wrong = [(), "a", ["a"], ("A",), ("ab",), ("a1234",), ("a\n",), (1,), (True,), (None,), (A,), ("f", "a"),
                 ("f", A, B, C), ("f", ()), ("f", ["a"]), ["f", A], ("F", A), ("f", A, "b"), ("f", A, ("B",)),
                 ("f", ("g", 1)), (A, A), None, True, 1, {}, ("f", None), ([], A)]
        for value in wrong:
            self.refuses(BadTerm, {"value": value}, check_term, value)

    def test_the_whole_value_is_told(self):
        value = ("f", ("g", ("H", A)), B)
        self.refuses(BadTerm, {"value": value}, check_term, value)

    def test_a_very_deep_value_is_refused(self):
        value = nested(100000)
        with self.assertRaises(BadTerm) as caught:
            check_term(value)
        self.assertIs(caught.exception.value, value)


class OrderTest(LookerCase):

    def test_is_plain(self):
        self.gives(True, is_plain, A)
        self.gives(False, is_plain, ("f", A))
        self.gives(False, is_plain, ("f", A, B))

    def test_depth(self):
        for levels in range(6):
            self.gives(levels + 1, depth, nested(levels))
        self.gives(3, depth, ("g", A, ("f", B)))
        self.gives(3, depth, ("g", ("f", A), B))

    def test_ranks(self):
        self.gives((1, "a", 0), term_rank, A)
        self.gives((2, "f", 1, (1, "a", 0)), term_rank, ("f", A))
        self.gives((3, "g", 2, (2, "f", 1, (1, "a", 0)), (1, "b", 0)), term_rank, ("g", ("f", A), B))

    def test_the_order_of_terms(self):
        ascending = [A, B, ("z",), ("f", A), ("f", B), ("f", A, A), ("f", A, B), ("f", B, A), ("g", A),
                     ("a", ("z", B)), ("f", ("f", A)), ("f", ("f", B)), ("f", ("f", A, A)), ("f", ("g", A)),
                     ("f", A, ("g", A)), ("f", ("f", A), A), ("a", ("f", ("f", A)))]
        for first, second in itertools.combinations(ascending, 2):
            self.assertLess(term_rank(first), term_rank(second))

    def test_the_number_of_arguments_counts_before_them(self):
        self.assertLess(term_rank(("f", ("z", B))), term_rank(("f", A, ("a", A))))

    def test_functions_with_other_numbers_of_arguments_differ(self):
        self.assertNotEqual(term_rank(("f", A)), term_rank(("f", A, A)))


class PartsTest(LookerCase):

    def test_subterms(self):
        self.gives((A,), subterms, A)
        self.gives((A, ("f", A), ("f", ("f", A))), subterms, nested(2))
        self.gives((A, B, ("f", A), ("g", ("f", A), B)), subterms, ("g", ("f", A), B))

    def test_subterms_are_different_and_in_the_order_of_terms(self):
        term = ("g", ("h", B), ("f", B, ("b", A)))
        self.gives((A, B, ("b", A), ("h", B), ("f", B, ("b", A)), term), subterms, term)
        self.gives((A, ("f", A), ("g", ("f", A), ("f", A))), subterms, ("g", ("f", A), ("f", A)))

    def test_a_function_may_have_the_name_of_a_name(self):
        self.gives((A, ("a", A)), subterms, ("a", A))
        self.gives(("b",), term_names, ("a", B))

    def test_term_names(self):
        self.gives(("a",), term_names, A)
        self.gives(("a", "b", "c"), term_names, ("f", ("g", C, A), ("h", B, C)))
        self.gives(("a10", "a2"), term_names, ("f", ("a2",), ("a10",)))
        many = [(name,) for name in "hgfedcba"]
        self.gives(tuple("abcdefgh"), term_names, ("f", ("f", ("f", *many[:2]), ("f", *many[2:4])),
                                                   ("f", ("f", *many[4:6]), ("f", *many[6:]))))

    def test_renamed_terms(self):
        self.gives(B, renamed_term, A, {"a": "b"})
        self.gives(A, renamed_term, A, {"b": "c"})
        self.gives(("g", ("f", B), A), renamed_term, ("g", ("f", A), B), {"a": "b", "b": "a", "z": "y"})

    def test_functions_stay(self):
        self.gives(("a", ("b", C), C), renamed_term, ("a", ("b", A), A), {"a": "c", "b": "d"})
