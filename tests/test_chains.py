from helper import LookerCase, parts_of
from onelooker.chains import chain, conclusions, read_chain
from onelooker.equalterms import EqualTerms
from onelooker.errors import BadStep, NotSame
from onelooker.terms import check_term
from test_equalterms import A, B, C, D, DEEP, FA, FB, FC, SMALL, TOO_DEEP, WRONG_TERMS, samples

EQUATIONS = [(1, A, B), (2, B, C), (7, FA, D)]
EXAMPLE = (("given", 1), ("given", 2), ("join", 0, 1), ("apply", "f", 2))
# Each step concludes what stands beside it, under the equations above.
STEPS = [
    (("given", 1), (A, B)), (("given", 2), (B, C)), (("still", D), (D, D)), (("turn", 0), (B, A)),
    (("join", 0, 1), (A, C)), (("apply", "f", 4), (FA, FC)), (("apply", "g", 0, 2), (("g", A, D), ("g", B, D))),
    (("given", 7), (FA, D)), (("turn", 7), (D, FA)), (("join", 8, 5), (D, FC)),
    (("apply", "f", 5), (("f", FA), ("f", FC)))]


class ChainTest(LookerCase):

    def check_chain(self, equations, first, second):
        """A chain has everything that point 38 asks for; its steps."""
        steps = self.gives(chain(equations, first, second), chain, equations, first, second)
        self.assertIs(type(steps), tuple)
        found = conclusions(equations, steps)
        self.assertEqual(found[-1], (first, second))
        self.assertEqual(len(set(found)), len(found))
        used = {number for step in steps for number in step[1:] if step[0] in ("turn", "join")}
        used |= {number for step in steps for number in step[2:] if step[0] == "apply"}
        self.assertEqual(used, set(range(len(steps) - 1)))
        known = set().union(parts_of(first), parts_of(second),
                            *[parts_of(term) for row in equations for term in row[1:]])
        self.assertLessEqual({term for pair in found for term in pair}, known)
        labels = sorted(step[1] for step in steps if step[0] == "given")
        self.assertEqual(tuple(labels), EqualTerms.of(*equations).reasons(first, second))
        return steps

    def test_the_two_terms_equal(self):
        for term in [A, FA, DEEP, ("g", A, B)]:
            for equations in [[], EQUATIONS, [(1, A, A)]]:
                self.assertEqual(self.check_chain(equations, term, term), (("still", term),))

    def test_one_equation(self):
        self.assertEqual(self.check_chain([(5, A, B)], A, B), (("given", 5),))
        self.assertEqual(self.check_chain([(5, A, B)], B, A), (("given", 5), ("turn", 0)))

    def test_the_example(self):
        steps = self.check_chain([(1, A, B), (2, B, C)], FA, FC)
        self.assertEqual({step[0] for step in steps}, {"given", "join", "apply"})
        self.assertEqual(read_chain([(1, A, B), (2, B, C)], EXAMPLE), (FA, FC))

    def test_two_arguments(self):
        self.check_chain(EQUATIONS, ("g", A, D), ("g", C, D))
        self.check_chain(EQUATIONS, ("g", A, B), ("g", C, A))
        self.check_chain(EQUATIONS, ("g", B, B), ("g", A, A))
        self.check_chain(EQUATIONS, ("g", D, FA), ("g", FC, FB))

    def test_equations_as_a_tuple(self):
        self.check_chain(tuple(EQUATIONS), FC, D)

    def test_a_term_that_is_in_no_equation(self):
        self.check_chain(EQUATIONS, ("h", ("h", A)), ("h", ("h", C)))
        self.refuses(NotSame, {"first": ("h", A), "second": A}, chain, EQUATIONS, ("h", A), A)

    def test_terms_that_are_not_the_same(self):
        self.refuses(NotSame, {"first": A, "second": D}, chain, EQUATIONS, A, D)
        self.refuses(NotSame, {"first": D, "second": A}, chain, EQUATIONS, D, A)
        self.refuses(NotSame, {"first": A, "second": B}, chain, [], A, B)

    def test_a_ring_of_equations(self):
        names = [(f"a{number}",) for number in range(60)]
        ring = [(number + 1, names[number], names[(number + 1) % 60]) for number in range(60)]
        for first, second in [(0, 59), (59, 0), (3, 40), (40, 3), (17, 17)]:
            self.check_chain(ring, names[first], names[second])
        self.check_chain(ring, ("f", names[1]), ("f", names[58]))

    def test_function_values_on_function_values(self):
        longer = [(1, DEEP, A), (2, ("f", ("f", A)), A)]
        self.check_chain(longer, FA, A)
        self.check_chain(longer, A, DEEP)
        self.check_chain([(1, A, FA)], A, DEEP)
        self.check_chain([(1, A, FA)], DEEP, ("f", FA))

    def test_many_function_values(self):
        # Each equation lets the next pair of function values follow.
        names = [(f"a{number}",) for number in range(30)]
        equations = [(1, names[0], names[1])]
        for number in range(2, 30, 2):
            equations.append((number, ("f", names[number - 2]), names[number]))
            equations.append((number + 1, ("f", names[number - 1]), names[number + 1]))
        self.check_chain(equations, names[28], names[29])

    def test_samples(self):
        asked = 0
        for equations in samples(4, 60, 6):
            for members in EqualTerms.of(*equations).classes(*SMALL):
                for first, second in [(members[0], members[-1]), (members[-1], members[0]), (members[-1], members[-1])]:
                    self.check_chain(equations, first, second)
                    asked += first != second
        self.assertGreater(asked, 100)


class ConclusionsTest(LookerCase):

    def test_each_kind_of_step(self):
        steps = [step for step, _ in STEPS]
        self.gives([pair for _, pair in STEPS], conclusions, EQUATIONS, steps)
        self.gives([pair for _, pair in STEPS], conclusions, tuple(EQUATIONS), tuple(steps))
        for many in range(1, len(steps) + 1):
            self.gives(STEPS[many - 1][1], read_chain, EQUATIONS, steps[:many])

    def test_no_steps(self):
        for steps in [[], ()]:
            self.gives([], conclusions, EQUATIONS, steps)
            self.refuses(BadStep, {"index": 0}, read_chain, EQUATIONS, steps)

    def refuses_step(self, step, start=()):
        """The step is not right behind the steps of the start."""
        for call in (conclusions, read_chain):
            self.refuses(BadStep, {"index": len(start)}, call, EQUATIONS, [*start, step])
            self.refuses(BadStep, {"index": len(start)}, call, EQUATIONS, (*start, step, ("given", 3), ()))

    def test_what_is_no_step(self):
        start = tuple([step for step, _ in STEPS[:3]])
        for step in [None, True, 0, "given", "", (), [], {}, ("given",), ("still",), ("turn",), ("join",), ("apply",),
                     ["given", 1], ["turn", 0], ("give", 1), ("Given", 1), ("resolve", 0, 1), (0, 1), (("given", 1),),
                     ("given", 1, 1), ("still", A, A), ("turn", 0, 0), ("turn", 0, 1), ("join", 0), ("join", 0, 1, 1),
                     ("apply", "f"), ("apply", "f", 0, 0, 0), ("apply", 0), ("apply", 0, 0), (None, 0), ([], 0)]:
            self.refuses_step(step, start)

    def test_given_steps(self):
        for label in [0, 3, -1, 1000, True, False, None, "1", 1.0, (1,), [1]]:
            self.refuses_step(("given", label))
        self.refuses(BadStep, {"index": 0}, conclusions, [], [("given", 1)])

    def test_still_steps(self):
        for term in WRONG_TERMS:
            self.refuses_step(("still", term))
        self.gives([(DEEP, DEEP)], conclusions, [], [("still", DEEP)])

    def test_numbers_are_those_of_earlier_steps(self):
        start = tuple([step for step, _ in STEPS[:2]])
        for wrong in [2, 3, -1, -2, True, False, None, "0", 0.0, (0,), [0]]:
            self.refuses_step(("turn", wrong), start)
            self.refuses_step(("join", wrong, 1), start)
            self.refuses_step(("join", 0, wrong), start)
            self.refuses_step(("apply", "f", wrong), start)
            self.refuses_step(("apply", "f", wrong, 0), start)
            self.refuses_step(("apply", "f", 0, wrong), start)
        self.refuses_step(("turn", 0))

    def test_a_join_needs_a_middle(self):
        start = tuple([step for step, _ in STEPS[:3]])
        for first, second in [(1, 0), (0, 0), (0, 2), (2, 0)]:
            self.refuses_step(("join", first, second), start)
        self.gives((D, D), read_chain, EQUATIONS, [*start, ("join", 2, 2)])

    def test_functions_are_names(self):
        start = (("given", 1),)
        for function in ["", "F", "ff", "f1234", None, 1, True, ("f",), ["f"]]:
            self.refuses_step(("apply", function, 0), start)
            self.refuses_step(("apply", function, 0, 0), start)
        self.gives((("f123", A), ("f123", B)), read_chain, EQUATIONS, [*start, ("apply", "f123", 0)])

    def test_depth(self):
        grown = [("still", A), ("apply", "f", 0), ("apply", "f", 1), ("apply", "f", 2)]
        self.gives((DEEP, DEEP), read_chain, [], grown)
        for step in [("apply", "f", 3), ("apply", "f", 3, 0), ("apply", "f", 0, 3)]:
            self.refuses_step(step, tuple(grown))
        # Only one of both values is too deep here.
        one_sided = [(1, A, DEEP)]
        self.gives((A, DEEP), read_chain, one_sided, [("given", 1)])
        self.refuses(BadStep, {"index": 1}, conclusions, one_sided, [("given", 1), ("apply", "f", 0)])
        self.refuses(BadStep, {"index": 2}, conclusions, one_sided, [("given", 1), ("turn", 0), ("apply", "f", 1)])
        self.refuses(BadStep, {"index": 0}, conclusions, [(1, A, TOO_DEEP)], [("given", 1)])

    def test_one_bent_step_at_any_place(self):
        equations = [(1, A, B), (2, B, C), (3, FC, D), (4, ("g", A, D), FB)]
        steps = chain(equations, ("h", ("g", C, FA)), ("h", D))
        found = conclusions(equations, steps)
        for term in found[-1]:
            check_term(term)
        self.assertGreater(len(steps), 8)
        for index, step in enumerate(steps):
            for wrong in [(), ("given", 9), ("turn", index), ("join", index, index), (*step, 0, 0, 0), list(step)]:
                bent = [*steps[:index], wrong, *steps[index + 1:]]
                self.refuses(BadStep, {"index": index}, conclusions, equations, bent)
                self.refuses(BadStep, {"index": index}, read_chain, equations, bent)

    def test_steps_are_read_as_they_are(self):
        steps = [("given", 1), ("given", 1), ("still", D), ("turn", 1)]
        before = list(steps)
        self.gives([(A, B), (A, B), (D, D), (B, A)], conclusions, EQUATIONS, steps)
        self.assertEqual(steps, before)
        conclusions(EQUATIONS, steps).clear()
        self.gives([(A, B), (A, B), (D, D), (B, A)], conclusions, EQUATIONS, steps)
