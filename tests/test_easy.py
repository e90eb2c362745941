import itertools
import random

from helper import LookerCase, terms_over
from onelooker.checking import refutes
from onelooker.deciders import fits
from onelooker.deciding import Outcome
from onelooker.easy import decide_easy, easy_flips
from onelooker.errors import NotEasy
from onelooker.literals import below, equal, negated, of_kind, owner_of, same, size_at_most, turn, word
from onelooker.models import Model
from onelooker.names import meet
from onelooker.problems import Problem
from onelooker.standing import has_model
from onelooker.trimming import trimmed
from slow import all_cells, every_atom, random_card, shared_truth, slow_fits, theory_models

NAMES, EVERY = ("a", "b"), ("a", "b", "c")
AB, SIZE_1 = same("a", "b"), size_at_most(1)
BELOW, ABOVE = below("o", "a", "b"), below("o", "b", "a")


def atoms_in(problem, owner):
    """The atoms of an owner in the clauses, ascending."""
    return sorted({atom for label in problem for atom, _ in problem[label] if atom[0] == owner})


def slow_flips(problem):
    """The least flips of point 54 for the fixed atoms of point 172, found by trying all; None if there are none."""
    free = [atom for owner in problem.owners if problem.card(owner) != ("terms",) for atom in atoms_in(problem, owner)]
    fit = []
    for signs in itertools.product((False, True), repeat=len(free)):
        flips = {atom for atom, sign in zip(free, signs) if sign}
        if all(len([1 for atom, sign in problem[label] if sign != (atom in flips)]) <= 1 for label in problem):
            fit.append(tuple(sorted(flips)))
    # The first atom that only one of two contains counts, and not to contain it is less.
    return min(fit, key=lambda flips: [atom in flips for atom in sorted(free)]) if fit else None


def slow_closed(problem, owner, flips):
    """True if the theory of an owner is closed under meets, by the words of points 170 and 171, for its models."""
    names, atoms = problem.names, atoms_in(problem, owner)
    shapes = set()
    for cell in all_cells(len(names)):
        for model in theory_models(owner, problem.card(owner), names, cell):
            held = frozenset(atom for atom in atoms if (atom in model) != (atom in flips))
            shapes.add((*cell, held))
    if any((3, marks, held) not in shapes for _, marks, held in shapes):
        return False
    large = [(marks, held) for size, marks, held in shapes if size == 3]
    return all((3, meet(low, high), one & other) in shapes for low, one in large for high, other in large)


def slow_easy(problem):
    """The flips of an easy problem, by the words of point 172; None if it is not easy."""
    if any(atom[:2] == ("", "size") for label in problem for atom, _ in problem[label]):
        return None
    flips = slow_flips(problem)
    if flips is None or not all(slow_closed(problem, owner, flips) for owner in problem.owners
                                if problem.card(owner) != ("terms",)):
        return None
    return flips


def fit_some(problem, owner, literals):
    """True if the literals fit some cell, for an owner or for the empty string."""
    card = problem.card(owner) if owner else None
    return any(slow_fits(card, problem.names, literals, cell) for cell in all_cells(len(problem.names)))


def slow_growth(problem, flips):
    """The growth, by the words of point 173; None if it clashes."""
    sames = [same(low, high) for low, high in itertools.combinations(problem.names, 2)]
    grown = set()
    while True:
        more = set()
        for label in problem:
            left = [literal for literal in problem[label] if negated(literal) not in grown]
            if not left:
                return None
            more |= set(left if len(left) == 1 else ())
        for owner in ("", *problem.owners):
            told = [literal for literal in grown if owner_of(literal) in ("", owner)]
            if not fit_some(problem, owner, told):
                return None
            positive = sames + [(atom, atom not in flips) for atom in atoms_in(problem, owner) if owner]
            more |= {literal for literal in positive if not fit_some(problem, owner, [*told, negated(literal)])}
        if more <= grown:
            return grown
        grown |= more


def easy_card(source, width):
    """Some card, often one of a theory that may be closed under meets."""
    return source.choice([("below",), ("terms",), ("ring", 2), ("ring", 3), ("kinds", (("k", 0),)),
                          ("kinds", (("k", 0), ("l", source.randint(0, 2)))), random_card(source, width, ("rows",)),
                          closed_rows(source, width), every_row(width)])


def every_row(width):
    """The rows card with all sets of three words at the last two cells; these are closed under meets."""
    marks = [marks for size, marks in all_cells(width) if size == 3][-2:]
    words = [some for size in range(4) for some in itertools.combinations("pqr", size)]
    return ("rows", tuple(sorted(((3, each), some) for each in marks for some in words)))


def closed_rows(source, width):
    """A rows card with rows of size 3, closed under meets of the marks and intersections of the words."""
    rows = {(source.choice([marks for size, marks in all_cells(width) if size == 3]),
             tuple(text for text in "pq" if source.random() < 0.6)) for _ in range(source.randint(1, 3))}
    while True:
        more = {(meet(low, high), tuple(text for text in one if text in other))
                for low, one in rows for high, other in rows}
        if more <= rows:
            return ("rows", tuple(sorted(((3, marks), words) for marks, words in rows)))
        rows |= more


def horn_problem(source):
    """Some problem with mostly Horn clauses."""
    names = EVERY[:source.randint(0, 3)]
    theories = {owner: easy_card(source, len(names)) for owner in source.sample("op", source.randint(0, 2))}
    terms = terms_over(names, ("f", "g"), 2)[:4]
    atoms = [("", "same", low, high) for low, high in itertools.combinations(names, 2)]
    for owner, card in theories.items():
        own = every_atom(owner, card, names, terms)
        atoms += source.sample(own, min(3, len(own)))
    turned = [atom for atom in atoms if atom[1] not in ("same", "equal") and source.random() < 0.4]
    clauses = {}
    for label in source.sample(range(1, 30), source.randint(0, 6) if atoms else 0):
        some = source.sample(atoms, min(len(atoms), source.choice((1, 1, 2, 3))))
        positive = source.randint(-1, len(some) - 1)
        clauses[label] = tuple((atom, (at == positive) != (atom in turned)) for at, atom in enumerate(some))
    return Problem(names, theories, clauses)


class FlipsTest(LookerCase):

    def test_by_the_words_of_points_170_to_172(self):
        source = random.Random(370)
        seen = {"not easy": 0, "flips": 0, "no flips": 0}
        for _ in range(250):
            problem = horn_problem(source)
            found = slow_easy(problem)
            self.gives(found, lambda asked: easy_flips(asked), problem)
            seen["not easy" if found is None else "flips" if found else "no flips"] += 1
        self.assertTrue(min(seen.values()) > 20, seen)

    def test_size_atoms(self):
        problem = Problem.of(NAMES, (BELOW,), (negated(AB), BELOW), o=("below",))
        self.gives((), lambda asked: easy_flips(asked), problem)
        for literal in (SIZE_1, negated(SIZE_1)):
            self.assertIsNone(easy_flips(problem.put(9, (literal,))))

    def test_clauses_without_flips(self):
        self.assertIsNone(easy_flips(Problem.of(EVERY, (AB, same("b", "c")))))
        self.gives((), lambda asked: easy_flips(asked), Problem.of(EVERY, (AB, negated(same("b", "c")))))
        fa, fb = equal("t", ("f", ("a",)), ("a",)), equal("t", ("f", ("b",)), ("b",))
        self.assertIsNone(easy_flips(Problem.of(NAMES, (fa, fb), t=("terms",))))
        self.assertIsNone(easy_flips(Problem.of(NAMES, (fa, AB), t=("terms",))))
        self.gives((), lambda asked: easy_flips(asked), Problem.of(NAMES, (fa, negated(fb)), t=("terms",)))

    def test_the_least_flips(self):
        card = ("rows", tuple(((3, ()), words) for words in ((), ("p",), ("p", "q"), ("q",))))
        p, q = word("r", "p"), word("r", "q")
        self.gives((q[0],), lambda asked: easy_flips(asked), Problem.of((), (p, q), r=card))
        self.gives((p[0],), lambda asked: easy_flips(asked), Problem.of((), (p, q), (p, negated(q)), r=card))
        every = [(p, q), (negated(p), negated(q)), (p, negated(q)), (negated(p), q)]
        self.gives((p[0],), lambda asked: easy_flips(asked), Problem.of((), *every[:3], r=card))
        self.gives((q[0],), lambda asked: easy_flips(asked), Problem.of((), *every[:2], every[3], r=card))
        self.assertIsNone(easy_flips(Problem.of((), *every, r=card)))

    def test_theories_that_are_not_closed(self):
        kinds = [of_kind("k", name, "l") for name in NAMES]
        for card, wanted in ((("kinds", (("k", 0), ("l", 0))), ()), (("kinds", (("k", 0), ("l", 1))), ()),
                             (("kinds", (("k", 1), ("l", 0))), None), (("kinds", (("l", 2),)), None)):
            self.assertEqual(easy_flips(Problem.of(NAMES, *[(each,) for each in kinds], k=card)), wanted)
        both = (negated(of_kind("k", "a", "k")), of_kind("k", "a", "l"))
        self.assertIsNone(easy_flips(Problem.of(NAMES, both, k=("kinds", (("k", 0), ("l", 0))))))
        self.assertIsNone(easy_flips(Problem.of(NAMES, k=("kinds", (("k", 2),)))))
        self.assertEqual(easy_flips(Problem.of(NAMES, k=("kinds", (("k", 0),)))), ())

    def test_equal_and_exchanged_names(self):
        never, back = below("o", "a", "a"), turn("u", "b", "a", 2)
        self.gives((), lambda asked: easy_flips(asked), Problem.of(NAMES, (never, negated(BELOW)), (ABOVE,), o=("below",)))
        for literal in (turn("u", "a", "a", 0), turn("u", "b", "b", 1), back):
            problem = Problem.of(NAMES, (literal,), (turn("u", "a", "b", 1), negated(literal)), u=("ring", 3))
            self.gives(slow_easy(problem), lambda asked: easy_flips(asked), problem)
        turns = [(turn("u", "a", "b", steps),) for steps in range(3)]
        for many, wanted in ((1, ()), (2, ()), (3, None)):
            self.assertEqual(easy_flips(Problem.of(NAMES, *turns[:many], u=("ring", 3))), wanted)

    def test_words_in_no_row(self):
        card = ("rows", (((3, (0,)), ("p",)),))
        problem = Problem.of(("a",), (word("r", "z"), negated(word("r", "p"))), r=card)
        self.gives((), lambda asked: easy_flips(asked), problem)
        both = (word("r", "z"), word("r", "p"))
        self.gives((word("r", "z")[0],), lambda asked: easy_flips(asked), Problem.of(("a",), both, r=card))

    def test_no_clauses_and_no_theories(self):
        for names in ((), NAMES, EVERY):
            self.assertEqual(easy_flips(Problem.of(names)), ())
            self.assertEqual(easy_flips(Problem.of(names, t=("terms",), o=("below",))), ())


class DecideTest(LookerCase):

    def check(self, problem):
        """What points 173 and 174 say of an easy problem; returns whether it stands."""
        flips = slow_easy(problem)
        grown = slow_growth(problem, flips)
        found = decide_easy(problem)
        self.assertIs(type(found), Outcome)
        self.assertEqual(has_model(problem), grown is not None)
        self.assertIsNone(found.pick)
        if grown is None:
            self.assertEqual((found.verdict, found.model), ("certificate", None))
            self.assertTrue(refutes(problem, found.certificate))
            self.assertEqual(trimmed(found.certificate), found.certificate)
            return False
        self.assertEqual((found.verdict, found.certificate), ("model", None))
        self.check_model(problem, flips, grown, found.model)
        return True

    def check_model(self, problem, flips, grown, model):
        """The least positive model."""
        self.assertIs(type(model), Model)
        self.assertTrue(model.satisfies(problem))
        self.assertEqual((model.names, model.theories(), model.cell[0]), (problem.names, problem.theories(), 3))
        for low, high in itertools.combinations(problem.names, 2):
            self.assertEqual(shared_truth(problem.names, model.cell, same(low, high)), same(low, high) in grown)
        for owner in problem.owners:
            literals = []
            for atom in atoms_in(problem, owner):
                positive = (atom, atom not in flips)
                self.assertEqual(model.holds(positive), positive in grown)
                literals.append(positive if positive in grown else negated(positive))
            self.assertEqual(model.own_part(owner), fits(problem.card(owner), problem.names, literals, model.cell))

    def test_samples(self):
        source = random.Random(371)
        seen = {True: 0, False: 0, None: 0}
        while min(seen.values()) < 40:
            problem = horn_problem(source)
            if slow_easy(problem) is None:
                self.refuses(NotEasy, {}, decide_easy, problem)
                seen[None] += 1
            else:
                seen[self.check(problem)] += 1

    def test_a_growth_that_does_not_clash(self):
        fa, gb = ("f", ("a",)), ("g", ("b",))
        problem = Problem.of(EVERY, (equal("t", fa, ("a",)),), (equal("t", fa, ("b",)), negated(equal("t", fa, ("a",)))),
                             (negated(AB), below("o", "c", "a")), (negated(same("b", "c")), BELOW), (equal("t", gb, fa),),
                             t=("terms",), o=("below",))
        self.assertFalse(self.check(problem.put(9, (negated(below("o", "c", "b")),))))
        self.assertTrue(self.check(problem))
        model = decide_easy(problem).model
        self.assertEqual((model.cell, model.own_part("o")), ((3, (0, 0, 1)), ((1, 0),)))
        self.assertEqual(model.own_part("t"), ((fa, 0), (gb, 0)))

    def test_a_growth_that_clashes(self):
        problem = Problem.of(NAMES, (BELOW,), (negated(BELOW), AB), o=("below",))
        self.assertFalse(self.check(problem))
        self.assertFalse(self.check(Problem.of(NAMES, (BELOW,), (negated(BELOW),), o=("below",))))
        self.assertFalse(self.check(Problem.of(NAMES, (AB,), (negated(AB),))))
        self.assertFalse(self.check(Problem.of(EVERY, (AB,), (same("b", "c"),), (negated(same("a", "c")),))))
        self.assertFalse(self.check(Problem.of(NAMES, (below("o", "b", "b"),), o=("below",))))

    def test_theories_exchange_what_grows(self):
        fa = ("f", ("a",))
        chain = Problem.of(EVERY, (equal("t", fa, ("a",)),), (equal("t", fa, ("b",)),), (negated(AB), turn("u", "b", "c", 0)),
                           (negated(turn("u", "a", "c", 0)), same("b", "c")), (negated(same("a", "c")), below("o", "a", "c")),
                           t=("terms",), u=("ring", 2), o=("below",))
        self.assertFalse(self.check(chain))
        self.assertTrue(self.check(chain.drop(5)))
        self.assertTrue(self.check(chain.drop(1)))
        self.assertEqual(decide_easy(chain.drop(5)).model.cell, (3, (0, 0, 0)))

    def test_flipped_atoms(self):
        card = ("rows", tuple(((3, ()), words) for words in ((), ("p",), ("p", "q"), ("q",))))
        p, q = word("r", "p"), word("r", "q")
        problem = Problem.of((), (p, q), (p, negated(q)), r=card)
        self.assertEqual(easy_flips(problem), (p[0],))
        self.assertTrue(self.check(problem))
        self.assertEqual(decide_easy(problem).model.own_part("r"), (1,))
        self.assertFalse(self.check(problem.put(7, (negated(p),))))

    def test_many_clauses(self):
        """A chain of 40 clauses, each of which adds one literal."""
        terms = [("f", ("a",))]
        while len(terms) < 19:
            terms.append((f"h{len(terms)}", ("a",)))
        literals = [equal("t", term, ("a",)) for term in terms]
        clauses = [(literals[0],)] + [(negated(low), high) for low, high in zip(literals, literals[1:])]
        problem = Problem.of(EVERY, *clauses, (negated(literals[-1]), AB), (negated(AB), BELOW), t=("terms",), o=("below",))
        self.assertEqual(decide_easy(problem).verdict, "certificate")
        self.assertTrue(refutes(problem, decide_easy(problem).certificate))
        model = decide_easy(problem.drop(len(problem))).model
        self.assertEqual((model.cell, {value for _, value in model.own_part("t")}), ((3, (0, 0, 1)), {0}))

    def test_problems_that_are_not_easy(self):
        for problem in (Problem.of((), (SIZE_1,)), Problem.of(EVERY, (AB, same("b", "c"))),
                        Problem.of((), k=("kinds", (("k", 1),)))):
            self.refuses(NotEasy, {}, decide_easy, problem)

    def test_no_clauses(self):
        for names in ((), NAMES, EVERY):
            for theories in ({}, {"o": ("below",), "t": ("terms",), "u": ("ring", 3)}):
                self.assertTrue(self.check(Problem(names, theories, {})))
