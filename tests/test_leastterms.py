from helper import LookerCase, parts_of, terms_over
from onelooker.equalterms import EqualTerms
from onelooker.leastterms import alike_equations, rewritten, rules
from onelooker.terms import term_rank
from test_equalterms import A, B, C, D, DEEP, FA, FB, FC, SMALL, samples

GA = ("g", A)
EVERY = sorted(terms_over("ab", "f", 3) + [("g", term) for term in terms_over("ab", "f", 2)], key=term_rank)


class RewrittenTest(LookerCase):

    def test_the_example(self):
        self.gives(("h", ("f", B)), rewritten, ("h", ("f", GA)), [(1, GA, B)])

    def test_without_equations(self):
        for term in [A, FA, DEEP, ("g", B, FA)]:
            for equations in [[], (), [(1, term, term)], [(3, C, D)]]:
                self.gives(term, rewritten, term, equations)

    def test_names(self):
        equations = [(2, C, B), (1, B, A)]
        for term in [A, B, C]:
            self.gives(A, rewritten, term, equations)
        self.gives(D, rewritten, D, equations)
        self.gives(("g", A, D), rewritten, ("g", C, D), equations)

    def test_terms_that_are_not_known(self):
        self.gives(("f", ("h", B)), rewritten, ("f", ("h", FA)), [(1, FA, B)])
        # The least term, f(b), is a subterm of no equation.
        self.gives(FB, rewritten, ("f", ("h", A)), [(1, ("h", A), B)])
        self.gives(FB, rewritten, ("k", A, A), [(1, ("h", A), B), (2, ("f", ("h", A)), ("k", A, A))])

    def test_the_order_of_terms(self):
        self.gives(FA, rewritten, ("g", A), [(1, GA, FA)])
        self.gives(FA, rewritten, ("f", A, A), [(1, ("f", A, A), FA)])
        self.gives(("f", A, B), rewritten, ("f", B, A), [(1, ("f", B, A), ("f", A, B))])
        self.gives(("g", B), rewritten, DEEP, [(1, DEEP, ("g", B))])

    def test_a_form_that_a_greater_term_brings(self):
        equations = [(1, ("k", C), ("g", ("h", ("h", A)))), (2, ("h", ("h", A)), B)]
        self.gives(("f", ("g", B)), rewritten, ("f", ("k", C)), equations)

    def test_a_ring_of_equations(self):
        ring = [(1, FA, GA), (2, GA, DEEP), (3, DEEP, D), (4, D, FA)]
        for term in [FA, GA, DEEP, D]:
            self.gives(D, rewritten, term, ring)
        self.gives(A, rewritten, DEEP, [(1, A, FA)])
        self.gives(("g", ("f", D)), rewritten, ("g", ("f", FA)), ring[2:])
        self.gives(("h", ("f", D)), rewritten, ("h", ("f", GA)), ring)

    def test_the_first_of_all_terms_that_are_the_same(self):
        for equations in samples(5, 40, 4):
            group = EqualTerms.of(*equations)
            for term in SMALL[:3] + SMALL[5:8] + [("f", B, A), ("f", ("g", A))]:
                if term in EVERY:
                    wanted = [other for other in EVERY if group.same(term, other)][0]
                    self.gives(wanted, rewritten, term, equations)

    def test_each_subterm_is_its_own_normal_form(self):
        for equations in samples(6, 40, 5):
            for term in SMALL:
                form = rewritten(term, equations)
                self.assertTrue(EqualTerms.of(*equations).same(term, form))
                for part in parts_of(form):
                    self.assertEqual(rewritten(part, equations), part)


class RulesTest(LookerCase):

    def test_no_rules(self):
        for equations in [[], (), [(1, A, A)], [(1, DEEP, DEEP), (2, FA, FA)]]:
            self.gives((), rules, equations)

    def test_the_example(self):
        self.gives(((GA, B),), rules, [(1, GA, B)])
        self.gives(((GA, B),), rules, ((1, B, GA),))

    def test_rules_stand_in_the_order_of_their_left_terms(self):
        self.gives(((B, A), (C, A), (FA, A)), rules, [(1, FC, B), (3, C, A), (2, A, B)])
        self.gives(((FA, B), (("f", B, B), B), (("g", B), B)), rules,
                   [(1, ("g", FA), ("f", FA, B)), (2, ("f", B, FA), FA), (3, FA, B)])

    def test_arguments_are_replaced(self):
        # f(g(a)) is known, but f(b) stands on the left.
        self.gives(((FB, C), (GA, B)), rules, [(1, GA, B), (2, ("f", GA), C)])
        self.gives(((B, A),), rules, [(1, A, B), (2, FA, FB)])

    def test_rules_by_the_words_of_the_document(self):
        for equations in samples(7, 40, 4):
            known = set().union(*[parts_of(term) for row in equations for term in row[1:]])
            forms = {term: rewritten(term, equations) for term in known}
            lefts = {(term[0], *[forms[part] for part in term[1:]]) for term in known}
            wanted = [(left, rewritten(left, equations)) for left in sorted(lefts, key=term_rank)]
            found = self.gives(tuple(pair for pair in wanted if pair[0] != pair[1]), rules, equations)
            for left, right in found:
                self.assertEqual(rewritten(right, equations), right)
                for part in parts_of(left) - {left}:
                    self.assertEqual(rewritten(part, equations), part)

    def test_the_rules_as_equations_are_alike(self):
        for equations in samples(8, 20, 4):
            found = rules(equations)
            others = [(number, left, right) for number, (left, right) in enumerate(found, start=1)]
            self.gives(True, alike_equations, equations, others)
            self.gives(found, rules, others)


class AlikeTest(LookerCase):

    def test_alike_lists(self):
        self.gives(True, alike_equations, [], ())
        self.gives(True, alike_equations, [(1, A, A)], [])
        self.gives(True, alike_equations, [(1, A, B), (2, B, C)], ((1, C, A), (7, C, B)))
        self.gives(True, alike_equations, [(1, A, B), (2, FA, C)], [(1, B, A), (2, FB, C), (3, FA, FB)])
        self.gives(True, alike_equations, [(1, DEEP, A), (2, ("f", FA), A)], [(1, FA, A)])

    def test_lists_that_are_not_alike(self):
        for first, second in [([], [(1, A, B)]), ([(1, A, B)], [(1, A, B), (2, B, C)]), ([(1, A, B)], [(1, A, C)]),
                              ([(1, FA, FB)], [(1, A, B)]), ([(1, FA, B)], [(1, GA, B)]),
                              ([(1, DEEP, A)], [(1, FA, A)])]:
            self.gives(False, alike_equations, first, second)
            self.gives(False, alike_equations, second, first)

    def test_alike_exactly_if_the_rules_are_the_same(self):
        lists = list(samples(9, 25, 2)) + [[(1, A, B)], [(4, B, A)]]
        found = [(alike_equations(first, second), rules(first) == rules(second)) for first in lists for second in lists]
        self.assertEqual([alike for alike, _ in found], [equal for _, equal in found])
        self.assertEqual({alike for alike, _ in found}, {True, False})
