import random

from helper import LookerCase, parts_of, same_pairs, terms_over
from onelooker.literals import equal, negated
from onelooker.names import cells_over, pairs
from onelooker.terms import is_plain, renamed_term, term_rank
from onelooker.termsfits import term_value, terms_part, terms_truth
from slow import terms_fit

CARD = ("terms",)
A, B, C = ("a",), ("b",), ("c",)
NAMES = ("a", "b", "c")
APART = (3, (0, 1, 2))


def f(*parts):
    return ("f", *parts)


def g(*parts):
    return ("g", *parts)


def term_samples(seed, many):
    """Names, a cell of size 3, and own literals of a terms card over a few terms, always the same for a seed."""
    source = random.Random(seed)
    for _ in range(many):
        names = NAMES[:source.randint(1, 3)]
        terms = source.sample(terms_over(names, ("f", "g"), 3), 4) + [(name,) for name in names]
        literals = []
        for _ in range(source.randint(0, 4)):
            first, second = source.sample(terms, 2)
            if not (is_plain(first) and is_plain(second)) and first != second:
                literals.append((equal("o", first, second)[0], source.random() < 0.6))
        yield names, source.choice([cell for cell in cells_over(len(names)) if cell[0] == 3]), literals


class PartTest(LookerCase):

    def check(self, wanted, names, literals, cell):
        for given in (list(literals), tuple(literals)):
            self.gives(wanted, terms_part, CARD, names, given, cell)

    def test_only_size_3(self):
        for cell in cells_over(2):
            self.check(() if cell[0] == 3 else None, ("a", "b"), [], cell)

    def test_no_names(self):
        self.check((), (), [], (3, ()))
        self.check(None, (), [], (2, ()))

    def test_a_term_that_must_be_equal_to_a_name(self):
        self.check(((f(A), 1),), NAMES, [equal("o", f(A), B)], APART)
        self.check(((f(A), 0), (f(B), 0)), NAMES, [equal("o", f(A), B)] + [negated(equal("o", f(B), C))], (3, (0, 0, 1)))
        self.check(((f(A), 1), (f(f(A)), 0)), NAMES, [equal("o", f(A), B), equal("o", f(f(A)), A)], APART)

    def test_a_term_that_must_be_equal_to_an_earlier_term_or_to_none(self):
        self.check(((f(A), 3), (f(B), 3), (g(A), 4)), NAMES,
                   [equal("o", f(A), f(B)), negated(equal("o", g(A), f(A)))], APART)
        self.check(((f(A), 1), (g(A), 2), (g(B), 2)), ("a", "b"), [negated(equal("o", f(A), g(B))),
                                                                    equal("o", g(A), g(B))], (3, (0, 0)))

    def test_terms_with_the_same_arguments_must_be_equal(self):
        self.check(((f(A), 2), (f(B), 2), (g(f(A)), 3), (g(f(B)), 3)), NAMES,
                   [equal("o", g(f(A)), g(f(B)))], (3, (0, 0, 1)))
        self.check(None, NAMES, [negated(equal("o", g(f(A)), g(f(B))))], (3, (0, 0, 1)))
        self.check(None, NAMES, [equal("o", f(A), B), negated(equal("o", f(f(A)), f(B)))], APART)
        self.check(None, NAMES, [negated(equal("o", f(A, B), f(B, A)))], (3, (0, 0, 0)))

    def test_two_names_with_different_marks_must_not_be_equal(self):
        self.check(None, NAMES, [equal("o", f(A), B), equal("o", f(A), C)], APART)
        self.check(((f(A), 1),), NAMES, [equal("o", f(A), B), equal("o", f(A), C)], (3, (0, 1, 1)))
        self.check(None, NAMES, [equal("o", f(A), A), equal("o", f(A), B)], (3, (0, 1, 1)))

    def test_the_same_literal_twice_and_its_negation(self):
        told = equal("o", f(A), B)
        self.check(((f(A), 1),), NAMES, [told, told], APART)
        self.check(None, NAMES, [told, negated(told)], APART)

    def test_one_and_two_arguments_differ(self):
        self.check(((f(A), 3), (f(A, A), 4)), NAMES, [negated(equal("o", f(A), f(A, A)))], APART)
        self.check(((f(A), 0), (f(A, A), 1)), NAMES, [equal("o", f(A), A), equal("o", f(A, A), B)], APART)

    def test_depth_4(self):
        deep = f(g(f(A)))
        self.check(((f(A), 3), (g(f(A)), 4), (deep, 5)), NAMES, [negated(equal("o", deep, B))], APART)
        self.check(((f(A), 3), (g(f(A)), 4), (deep, 1)), NAMES, [equal("o", deep, B)], APART)
        self.check(((f(A), 0), (f(f(A)), 0), (f(f(f(A))), 0)), ("a",),
                   [equal("o", f(f(f(A))), A), equal("o", f(A), A)], (3, (0,)))
        self.check(None, ("a",), [negated(equal("o", f(f(f(A))), A)), equal("o", f(A), A)], (3, (0,)))

    def test_samples(self):
        seen = {True: 0, False: 0}
        for names, cell, literals in term_samples(95, 250):
            found = terms_part(CARD, names, tuple(literals), cell)
            self.assertEqual(found is not None, terms_fit(names, literals, cell), (names, cell, literals))
            seen[found is None] += 1
            if found is not None:
                self.check(self.chosen(names, cell, literals), names, literals, cell)
                for atom, sign in literals:
                    self.assertIs(terms_truth(CARD, names, cell, found, atom), sign)
        self.assertTrue(min(seen.values()) > 30, seen)

    def chosen(self, names, cell, literals):
        """The chosen own part by the words of point 68."""
        block = dict(zip(names, cell[1]))
        told = [(atom[2], atom[3]) for atom, sign in literals if sign]
        told += [((low,), (high,)) for low, high in pairs(names) if block[low] == block[high]]
        terms = [term for atom, _ in literals for term in atom[2:]]
        _, same = same_pairs(told, terms + [(name,) for name in names])
        known = sorted(set().union(*[parts_of(term) for term in terms]), key=term_rank)
        found = {}
        for term in [term for term in known if len(term) > 1]:
            equals = [block[name] for name in names if (term, (name,)) in same]
            equals += [value for earlier, value in found.items() if (term, earlier) in same]
            free = max([max(block.values()), *found.values()]) + 1
            found[term] = equals[0] if equals else free
        return tuple(found.items())

    def test_the_cells_of_two_fits_have_their_meet(self):
        for names, _, literals in term_samples(96, 60):
            fit = [cell[1] for cell in cells_over(len(names)) if terms_part(CARD, names, literals, cell) is not None]
            for first in fit:
                for second in fit:
                    met = list(zip(first, second))
                    marks = tuple(list(dict.fromkeys(met)).index(both) for both in met)
                    self.assertIn(marks, fit)


class ValueTest(LookerCase):
    OWN = ((f(A), 1), (f(C), 4), (g(A, B), 3), (g(f(A), B), 4))

    def check(self, wanted, term, own=OWN, names=NAMES, cell=APART):
        self.gives(wanted, term_value, names, cell, own, term)

    def test_names(self):
        for name, value in [(A, 0), (B, 1), (C, 0)]:
            self.check(value, name, (), NAMES, (3, (0, 1, 0)))

    def test_terms_of_the_own_part(self):
        for term, value in self.OWN:
            self.check(value, term)

    def test_arguments_with_the_same_values(self):
        self.check(4, g(B, B))
        self.check(3, g(A, f(A)))
        self.check(4, g(f(A), f(A)))
        self.check(1, f(B), ((f(A), 1),), NAMES, (3, (0, 0, 1)))

    def test_new_things(self):
        self.check(("h", 0), ("h", A))
        self.check(("f", 0, 1), f(A, B))
        self.check(("g", 0), g(A))
        self.check(("f", 1), f(f(A)))
        self.check(("g", 4, ("f", 1)), g(f(C), f(B)))
        self.check(("h", ("h", ("h", 2))), ("h", ("h", ("h", C))))
        self.check(("f", 0), f(A), ())
        self.check(("f", 1), f(f(A)), ((f(A), 1),))
        self.check(0, f(f(A)), ((f(A), 0),), ("a",), (3, (0,)))

    def test_depth_1_to_4(self):
        own = ((f(A), 0),)
        term = A
        for _ in range(4):
            self.check(0, term, own, ("a",), (3, (0,)))
            term = f(term)

    def test_any_order_of_the_pairs(self):
        for term in terms_over(NAMES, ("f", "g"), 2) + [g(f(A), f(C)), f(g(A, B))]:
            self.assertEqual(term_value(NAMES, APART, self.OWN[::-1], term),
                             term_value(NAMES, APART, self.OWN, term))


class TruthTest(LookerCase):

    def check(self, wanted, first, second, own=ValueTest.OWN):
        self.gives(wanted, terms_truth, CARD, NAMES, APART, own, equal("o", first, second)[0])

    def test_both_terms_have_the_same_value(self):
        self.check(True, f(A), B)
        self.check(False, f(A), A)
        self.check(True, f(C), g(f(A), B))
        self.check(True, f(C), g(B, B))
        self.check(False, f(C), g(A, B))

    def test_terms_in_no_literal(self):
        self.check(False, ("h", A), ("h", B))
        self.check(True, ("h", B), ("h", f(A)))
        self.check(False, ("h", B), ("h", B, B))
        self.check(False, ("h", B), A)

    def test_in_the_chosen_part_terms_are_equal_only_if_they_must_be(self):
        source = random.Random(97)
        for names, cell, literals in term_samples(98, 60):
            own = terms_part(CARD, names, literals, cell)
            if own is not None:
                terms = source.sample(terms_over(names, ("f", "h"), 3), 3) + [(name,) for name in names]
                terms += [renamed_term(term, {"a": names[-1]}) for atom, _ in literals for term in atom[2:]]
                for first in terms:
                    for second in terms:
                        if first != second and len(first) + len(second) > 2:
                            literal = equal("o", first, second)
                            self.assertIs(terms_truth(CARD, names, cell, own, literal[0]),
                                          not terms_fit(names, [*literals, negated(literal)], cell))
