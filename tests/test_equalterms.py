import copy
import random

from helper import LookerCase, parts_of, same_pairs, terms_over
from onelooker.equalterms import EqualTerms, closure
from onelooker.errors import BadLabel, BadTerm, NoLabel, NotSame, NothingToUndo, TakenLabel
from onelooker.terms import term_rank

A, B, C, D = ("a",), ("b",), ("c",), ("d",)
FA, FB, FC = ("f", A), ("f", B), ("f", C)
DEEP = ("f", ("f", ("f", A)))
TOO_DEEP = ("f", DEEP)
SMALL = terms_over("ab", "f", 2) + [("f", FA), ("f", ("f", FA)), ("g", A), ("f", FB), ("f", FA, B)]
WRONG_TERMS = [(), [], "a", None, 1, True, ("A",), ("ab",), (("a",),), ["a"], ("f", "a"), ("f", A, A, A), TOO_DEEP]


def samples(seed, many, most):
    """Lists of equations with the labels in any order, always the same for the same seed."""
    source = random.Random(seed)
    for _ in range(many):
        labels = source.sample(range(1, 1000), source.randint(0, most))
        yield [(label, source.choice(SMALL), source.choice(SMALL)) for label in labels]


def pairs_of(equations):
    return [(first, second) for _, first, second in equations]


class ClosureTest(LookerCase):

    def test_nothing(self):
        self.gives({}, closure, [], [])
        self.gives({}, closure, (), ())

    def test_the_keys_are_the_known_terms_in_their_order(self):
        self.gives({A: A, B: B, C: C, FA: FA, ("g", FA, B): ("g", FA, B)}, closure, [(C, C)], [("g", FA, B), FA])
        self.gives({A: A, ("f", A): FA, ("f", A, A): ("f", A, A)}, closure, (), (("f", A, A), FA))

    def test_the_values_are_the_first_terms(self):
        self.gives({A: A, B: A, C: A}, closure, [(C, B), (B, A)], [])
        self.gives({A: A, B: B, FB: A}, closure, [(FB, A)], [B])
        self.gives({A: A, FA: A, ("f", FA): A, DEEP: A}, closure, ((A, FA),), (DEEP,))

    def test_function_values_of_same_arguments(self):
        self.gives({A: A, B: A, FA: FA, FB: FA}, closure, [(A, B)], [FA, FB])
        self.gives({A: A, B: A, ("g", A, B): ("g", A, B), ("g", B, A): ("g", A, B)}, closure, [(A, B)],
                   [("g", A, B), ("g", B, A)])
        self.gives({A: A, B: A, FA: FA, ("g", B): ("g", B)}, closure, [(A, B)], [FA, ("g", B)])
        self.gives({A: A, B: A, FA: FA, ("f", B, B): ("f", B, B)}, closure, [(A, B)], [FA, ("f", B, B)])
        self.gives({A: A, B: B, FA: FA, FB: FA}, closure, [(FA, FB)], [])

    def test_a_ring(self):
        ring = [(A, B), (B, C), (C, D), (D, A)]
        self.gives({A: A, B: A, C: A, D: A}, closure, ring, [])

    def test_a_depth_of_three_by_one_of_five(self):
        # Three and five steps of f lead back to a, so one step does, too.
        longer = ("f", ("f", DEEP))
        leads = closure([(DEEP, A), (longer, A)], [])
        self.assertEqual(set(leads.values()), {A})

    def test_what_greater_terms_say_of_lesser_ones(self):
        pairs = [(FA, FB), (("g", FA), A), (("g", FB), B)]
        leads = closure(pairs, [("h", A), ("h", B)])
        self.assertEqual((leads[B], leads[("h", B)], leads[FB]), (A, ("h", A), FA))

    def test_what_follows_from_the_rules(self):
        for equations in samples(1, 60, 4):
            pairs, terms = pairs_of(equations), SMALL[:4]
            known, found = same_pairs(pairs, terms)
            leads = closure(pairs, terms)
            self.assertEqual(list(leads), sorted(known, key=term_rank))
            for term in known:
                self.assertEqual(leads[term], min([other for other in known if (term, other) in found], key=term_rank))

    def test_many_terms(self):
        names = [(f"a{number}",) for number in range(61)]
        leads = closure(list(zip(names, names[1:])), [("f", name) for name in names[:39]])
        self.assertEqual(len(leads), 100)
        self.assertEqual(set(leads.values()), {names[0], ("f", names[0])})

    def test_the_dict_is_new(self):
        pairs = [(A, B)]
        closure(pairs, []).clear()
        self.gives({A: A, B: A}, closure, pairs, [])


class HoldingTest(LookerCase):

    def test_no_equations(self):
        group = EqualTerms()
        self.assertEqual((len(group), list(group), group.equations, group.classes()), (0, [], (), ()))
        self.assertNotIn(1, group)
        self.refuses(NoLabel, {"label": 1}, lambda: group[1])
        self.refuses(NoLabel, {"label": 1}, group.drop, 1)
        self.refuses(NothingToUndo, {}, group.undo)
        self.assertEqual(EqualTerms.of().equations, ())

    def test_equations_stand_in_the_order_of_putting(self):
        group = EqualTerms()
        self.assertIsNone(group.put(7, A, B))
        self.assertIsNone(group.put(3, FA, FA))
        self.assertIsNone(group.put(999, C, DEEP))
        self.assertEqual(repr(group.equations), repr(((7, A, B), (3, FA, FA), (999, C, DEEP))))
        self.assertEqual((len(group), list(group), [7 in group, 3 in group, 1 in group]),
                         (3, [7, 3, 999], [True, True, False]))
        self.assertEqual((group[7], group[3], group[999]), ((A, B), (FA, FA), (C, DEEP)))
        self.refuses(NoLabel, {"label": 8}, lambda: group[8])
        self.assertEqual(EqualTerms.of((7, A, B), (3, FA, FA), (999, C, DEEP)).equations, group.equations)

    def test_undo_and_drop(self):
        group = EqualTerms.of((5, A, B), (2, B, C), (9, C, D), (1, D, A))
        self.assertEqual(group.undo(), 1)
        self.assertIsNone(group.drop(2))
        self.assertEqual(group.equations, ((5, A, B), (9, C, D)))
        self.refuses(NoLabel, {"label": 2}, group.drop, 2)
        self.refuses(NoLabel, {"label": 1}, group.drop, 1)
        group.put(2, A, A)
        self.assertEqual(list(group), [5, 9, 2])
        group.drop(5)
        group.put(5, B, B)
        self.assertEqual(group.equations, ((9, C, D), (2, A, A), (5, B, B)))
        self.assertEqual([group.undo(), group.undo(), group.undo()], [5, 2, 9])
        self.refuses(NothingToUndo, {}, group.undo)
        self.assertEqual(len(group), 0)
        group.put(1, A, B)
        self.assertEqual(group.undo(), 1)

    def test_put_refuses(self):
        group = EqualTerms.of((1, A, B), (2, B, C))
        for label in [0, -1, 1000, True, False, None, "1", 1.0, (1,)]:
            self.refuses(BadLabel, {"value": label}, group.put, label, A, B)
            self.refuses(BadLabel, {"value": label}, EqualTerms.of, (label, A, B))
        self.refuses(TakenLabel, {"label": 2}, group.put, 2, A, B)
        self.refuses(TakenLabel, {"label": 2}, EqualTerms.of, (2, A, B), (3, A, B), (2, A, B))
        for term in WRONG_TERMS:
            self.refuses(BadTerm, {"value": term}, group.put, 3, term, B)
            self.refuses(BadTerm, {"value": term}, group.put, 3, A, term)
            self.refuses(BadTerm, {"value": term}, EqualTerms.of, (1, A, term))
        self.assertEqual(group.equations, ((1, A, B), (2, B, C)))
        self.assertTrue(group.same(A, C))

    def test_put_refuses_in_the_order_that_is_told(self):
        group = EqualTerms.of((1, A, B))
        self.refuses(BadLabel, {"value": True}, group.put, True, "x", "y")
        self.refuses(TakenLabel, {"label": 1}, group.put, 1, "x", "y")
        self.refuses(BadTerm, {"value": "x"}, group.put, 2, "x", "y")
        self.refuses(BadTerm, {"value": "y"}, group.put, 2, A, "y")
        self.refuses(BadLabel, {"value": 0}, EqualTerms.of, (1, A, B), (0, A, B), (1, A, B))

    def test_objects_are_independent(self):
        first, second = EqualTerms.of((1, A, B)), EqualTerms.of((1, A, B))
        earlier = first.equations
        second.put(2, B, C)
        first.drop(1)
        self.assertEqual((first.equations, second.equations, earlier), ((), ((1, A, B), (2, B, C)), ((1, A, B),)))


class AskingTest(LookerCase):

    def test_same(self):
        group = EqualTerms.of((1, A, B), (2, ("f", B), C))
        for first, second in [(A, A), (A, B), (B, A), (FA, C), (FB, FA), (("g", FA, A), ("g", C, B)), (D, D), (FC, FC)]:
            self.assertIs(group.same(first, second), True)
        for first, second in [(A, C), (A, D), (FA, ("g", A)), (FC, FA), (("g", A, C), ("g", C, A))]:
            self.assertIs(group.same(first, second), False)

    def test_answers_depend_on_the_present_equations_alone(self):
        group = EqualTerms.of((1, A, B), (2, B, C))
        self.assertTrue(group.same(FA, FC))
        group.undo()
        self.assertFalse(group.same(FA, FC))
        self.assertEqual(group.classes(C), ((A, B), (C,)))
        group.put(2, FB, C)
        self.assertTrue(group.same(FA, C))
        group.drop(1)
        self.assertEqual((group.least(A), group.least(FB), group.same(FA, C)), (A, C, False))

    def test_the_example_of_reasons(self):
        group = EqualTerms.of((1, A, B), (2, B, C), (3, A, C))
        self.assertEqual(group.reasons(A, C), (1, 2))
        self.assertEqual(EqualTerms.of((3, A, C), (1, A, B), (2, B, C)).reasons(A, C), (3,))
        self.assertEqual(EqualTerms.of((9, A, B), (2, A, C), (5, B, C)).reasons(A, C), (2,))
        self.assertEqual(EqualTerms.of((9, A, B), (5, B, C), (2, A, C)).reasons(C, A), (5, 9))

    def test_reasons_after_undo_and_drop(self):
        group = EqualTerms.of((1, A, B), (2, B, C), (3, A, C))
        group.drop(1)
        self.assertEqual(group.reasons(A, C), (3,))
        group.put(1, A, B)
        self.assertEqual(group.reasons(A, C), (3,))
        group.drop(3)
        self.assertEqual(group.reasons(A, C), (1, 2))

    def test_reasons_for_one_term(self):
        group = EqualTerms.of((1, A, A), (2, A, B))
        self.assertEqual((group.reasons(A, A), group.reasons(D, D), group.reasons(DEEP, DEEP)), ((), (), ()))

    def test_reasons_of_function_values(self):
        group = EqualTerms.of((4, A, B), (3, C, D), (2, B, B), (1, ("g", A, C), FA))
        self.assertEqual(group.reasons(("g", A, C), ("g", B, D)), (3, 4))
        self.assertEqual(group.reasons(("g", A, C), ("g", B, C)), (4,))
        self.assertEqual(group.reasons(("g", B, D), FB), (1, 3, 4))

    def test_terms_that_are_not_the_same(self):
        group = EqualTerms.of((1, A, B))
        self.refuses(NotSame, {"first": A, "second": C}, group.reasons, A, C)
        self.refuses(NotSame, {"first": C, "second": A}, group.reasons, C, A)
        self.refuses(NotSame, {"first": FA, "second": DEEP}, EqualTerms().reasons, FA, DEEP)
        self.assertEqual(group.equations, ((1, A, B),))

    def test_a_ring_of_equations(self):
        names = [(f"a{number}",) for number in range(60)]
        ring = [(number + 1, names[number], names[(number + 1) % 60]) for number in range(60)]
        group = EqualTerms.of(*ring)
        self.assertEqual(group.reasons(names[0], names[59]), tuple(range(1, 60)))
        self.assertEqual(EqualTerms.of(*reversed(ring)).reasons(names[0], names[59]), (60,))
        self.assertEqual(EqualTerms.of(*ring[5:], *ring[:5]).reasons(names[0], names[5]), tuple(range(6, 61)))
        self.assertEqual(group.classes(), (tuple(sorted(names)),))

    def test_reasons_by_the_words_of_the_document(self):
        asked = 0
        for equations in samples(2, 40, 5):
            group = EqualTerms.of(*equations)
            for first, second in [(A, B), (FA, FB), (FA, A), (("f", FA), ("f", A, B))]:
                kept = list(equations)
                if (first, second) not in same_pairs(pairs_of(kept), [first, second])[1]:
                    self.assertFalse(group.same(first, second))
                    self.refuses(NotSame, {"first": first, "second": second}, group.reasons, first, second)
                    continue
                for equation in reversed(equations):
                    fewer = [other for other in kept if other != equation]
                    if (first, second) in same_pairs(pairs_of(fewer), [first, second])[1]:
                        kept = fewer
                self.assertTrue(group.same(first, second))
                self.assertEqual(group.reasons(first, second), tuple(sorted(label for label, _, _ in kept)))
                asked += len(kept) > 0
        self.assertGreater(asked, 10)

    def test_classes(self):
        group = EqualTerms.of((1, FA, C), (2, B, A))
        self.assertEqual(repr(group.classes()), repr(((A, B), (C, FA))))
        self.assertEqual(group.classes(FB, D), ((A, B), (C, FA, FB), (D,)))
        self.assertEqual(group.classes(("g", D, C)), ((A, B), (C, FA), (D,), (("g", D, C),)))
        self.assertEqual(EqualTerms().classes(DEEP, B), ((A,), (B,), (FA,), (("f", FA),), (DEEP,)))

    def test_classes_hold_all_known_terms(self):
        for equations in samples(3, 30, 4):
            known, found = same_pairs(pairs_of(equations), [SMALL[-1]])
            classes = EqualTerms.of(*equations).classes(SMALL[-1])
            self.assertEqual(sorted(term for members in classes for term in members), sorted(known))
            self.assertEqual(list(classes), sorted(classes, key=lambda members: term_rank(members[0])))
            for members in classes:
                self.assertEqual(list(members), sorted(members, key=term_rank))
                for term in known:
                    self.assertEqual((members[0], term) in found, term in members)

    def test_least(self):
        group = EqualTerms.of((1, FA, C), (2, B, A))
        for least, term in [(A, A), (A, B), (C, C), (C, FA), (C, FB), (D, D), (FC, FC), (("f", FA), ("f", FA))]:
            self.assertEqual(group.least(term), least)

    def test_the_first_known_term_is_not_always_the_normal_form(self):
        group = EqualTerms.of((1, ("g", A), B))
        self.assertEqual(group.least(("h", ("f", ("g", A)))), ("h", ("f", ("g", A))))

    def test_questions_change_nothing(self):
        group = EqualTerms.of((2, A, B), (1, B, C))
        before = copy.deepcopy(group.equations)
        group.same(FA, D)
        group.classes(DEEP)
        group.least(DEEP)
        group.reasons(A, C)
        self.assertEqual((group.equations, group.classes()), (before, ((A, B, C),)))
        self.assertEqual(parts_of(DEEP) & {D}, set())
