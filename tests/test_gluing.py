import random

from helper import LookerCase, terms_over
from onelooker.deciders import all_parts
from onelooker.errors import BadCell, BadLiteral, BadName, NamesMismatch, NoOwner, SharedOwner, TooMany
from onelooker.gluing import apart, described, glued, renamed_model, without_owner
from onelooker.literals import (below, clause_of, equal, negated, of_kind, renamed_literal, same, shared_literals,
                                size_at_most, turn, word)
from onelooker.models import Model
from onelooker.names import cells_over
from onelooker.problems import Problem
from onelooker.standing import fitting_picks, models, standing
from onelooker.terms import renamed_term
from onelooker.termsfits import term_value, terms_part
from onelooker.typetables import own_atoms
from slow import every_atom, random_literals, random_problem

NAMES = ("a", "b", "c")
CELL = (3, (0, 1, 0))
A, B, C = ("a",), ("b",), ("c",)
FA, FB = ("f", A), ("f", B)
FULL = Model(NAMES, {"k": ("kinds", (("k", 0), ("l", 1))), "o": ("below",), "t": ("terms",)}, CELL,
             {"k": ("k", "l"), "o": ((0, 1),), "t": ((FA, 1), (FB, 2), (("f", FB), 3), (("g", FB), 2))})
RING = Model(NAMES, {"u": ("ring", 3), "r": ("rows", ((CELL, ("p",)), (CELL, ("q",))))}, CELL, {"u": (2, 0), "r": (1,)})
EMPTY = Model(NAMES, {}, CELL, {})


def parts_of_model(model):
    return {owner: model.own_part(owner) for owner in model.owners}


def model_samples(seed, many):
    """Models of all kinds, with any own parts, always the same for a seed."""
    source = random.Random(seed)
    while many > 0:
        problem = random_problem(source)
        names, cell = problem.names, source.choice(cells_over(len(problem.names)))
        parts = {}
        for owner in problem.owners:
            card = problem.card(owner)
            if card == ("terms",):
                found = [terms_part(card, names, random_literals(source, owner, card, names, 4), cell)]
            else:
                found = all_parts(card, names, [], cell)
            parts[owner] = source.choice(found or [None])
        if None not in parts.values():
            many -= 1
            yield source, Model(names, problem.theories(), cell, parts)


def literals_for(source, model):
    """Literals over the names and theories of a model: the shared ones, and some of each owner."""
    found = shared_literals(model.names)
    for owner in model.owners:
        card = model.card(owner)
        if card == ("terms",):
            known = [term for term, _ in model.own_part(owner)] + [(name,) for name in model.names]
            atoms = every_atom(owner, card, model.names, known)
            found += [(atom, True) for atom in atoms] + random_literals(source, owner, card, model.names, 5)
        else:
            found += [(atom, True) for atom in every_atom(owner, card, model.names)]
    return found


class GluedTest(LookerCase):

    def test_both_theories_and_own_parts(self):
        self.assertEqual(glued(FULL, RING), Model(NAMES, {**FULL.theories(), **RING.theories()}, CELL,
                                                  {**parts_of_model(FULL), **parts_of_model(RING)}))
        self.assertEqual(glued(RING, FULL), glued(FULL, RING))
        self.assertEqual(glued(FULL, EMPTY), FULL)
        self.assertEqual(glued(EMPTY, EMPTY), EMPTY)
        self.assertEqual(FULL.owners, ("k", "o", "t"))

    def test_errors_in_their_order(self):
        other_names = Model(("a", "b", "d"), {"o": ("below",)}, (3, (0, 1, 2)), {"o": ()})
        other_cell = Model(NAMES, {"o": ("below",)}, (3, (0, 1, 2)), {"o": ()})
        same_owners = Model(NAMES, {"u": ("ring", 2), "o": ("below",), "k": ("below",)}, CELL,
                            {"o": (), "k": (), "u": (0, 0)})
        self.refuses(NamesMismatch, {}, glued, FULL, other_names)
        self.refuses(BadCell, {"value": (3, (0, 1, 2))}, glued, FULL, other_cell)
        self.refuses(BadCell, {"value": CELL}, glued, other_cell, FULL)
        self.refuses(SharedOwner, {"owner": "k"}, glued, FULL, same_owners)
        self.refuses(SharedOwner, {"owner": "k"}, glued, same_owners, FULL)
        self.refuses(SharedOwner, {"owner": "u"}, glued, same_owners, RING)
        self.refuses(SharedOwner, {"owner": "r"}, glued, RING, RING)

    def test_the_cells_of_a_sum(self):
        source = random.Random(170)
        seen = {True: 0, False: 0}
        tries = 0
        while tries < 120:
            first = random_problem(source, owners="op", longest=2, most=2)
            second = random_problem(source, owners="q", longest=2)
            if first.names == second.names and not set(first) & set(second):
                tries += 1
                both = standing(first) & standing(second)
                self.assertEqual(standing(first + second), both)
                seen[len(both) == 0] += 1
                for left in models(first):
                    for right in models(second):
                        if left.cell == right.cell:
                            self.assertTrue(glued(left, right).satisfies(first + second))
        self.assertTrue(min(seen.values()) > 20, seen)


class WithoutOwnerTest(LookerCase):

    def test_a_theory_and_its_own_part_go(self):
        self.assertEqual(without_owner(RING, "u"), Model(NAMES, {"r": RING.card("r")}, CELL, {"r": (1,)}))
        self.assertEqual(without_owner(without_owner(RING, "u"), "r"), EMPTY)
        self.assertEqual(RING.owners, ("r", "u"))

    def test_no_such_owner(self):
        for owner in ("x", "o", ""):
            self.refuses(NoOwner, {"owner": owner}, without_owner, RING, owner)
            self.refuses(NoOwner, {"owner": owner}, without_owner, EMPTY, owner)

    def test_glued_again(self):
        for _, model in model_samples(171, 60):
            for owner in model.owners:
                alone = Model(model.names, {owner: model.card(owner)}, model.cell, {owner: model.own_part(owner)})
                self.assertEqual(glued(without_owner(model, owner), alone), model)


class RenamedTest(LookerCase):

    def check(self, cell, parts, model, mapping, names=("b", "c", "d")):
        before = dict(mapping)
        found = renamed_model(model, mapping)
        self.assertEqual((found.names, found.cell), (names, cell))
        self.assertEqual(repr(parts_of_model(found)), repr(parts))
        self.assertEqual(mapping, before)
        return found

    def test_the_order_of_the_names_stays(self):
        self.check(CELL, {"r": (1,), "u": (2, 0)}, RING, {}, NAMES)
        self.check(CELL, {"r": (1,), "u": (2, 0)}, RING, {"a": "a1", "c": "z", "y": "b"}, ("a1", "b", "z"))

    def test_the_numbers_of_the_blocks_change(self):
        # a goes behind b and c, so the block of b comes first.
        self.check((3, (0, 1, 1)), {"r": (1,), "u": (0, 2)}, RING, {"a": "d"})
        self.check((3, (0, 1, 1)), {"k": ("l", "k"), "o": ((1, 0),), "t": (
            (("f", B), 2), (("f", ("d",)), 0), (("f", ("f", B)), 3), (("g", ("f", B)), 2))}, FULL, {"a": "d"})

    def test_swapped_names(self):
        self.check((3, (0, 1, 1)), {"r": (1,), "u": (0, 2)}, RING, {"a": "b", "b": "a"}, NAMES)
        self.check((3, (0, 0, 1)), {"r": (1,), "u": (2, 0)}, RING, {"c": "b", "b": "c"}, NAMES)

    def test_rows_are_found_in_the_renamed_card(self):
        card = ("rows", (((2, (0, 0, 1)), ("p",)), ((2, (0, 1, 0)), ("p",)), ((2, (0, 1, 0)), ("q",)),
                         ((2, (0, 1, 1)), ())))
        for index, wanted in enumerate([3, 1, 2, 0]):
            cell = card[1][index][0]
            model = Model(NAMES, {"r": card}, cell, {"r": (index,)})
            found = renamed_model(model, {"a": "c", "c": "a"})
            self.assertEqual(found.own_part("r"), (wanted,))
            self.assertEqual(found.card("r")[1][wanted][0], found.cell)

    def test_pairs_of_blocks_are_sorted_again(self):
        model = Model(NAMES, {"o": ("below",)}, (3, (0, 1, 2)), {"o": ((0, 1), (0, 2), (1, 2))})
        self.check((3, (0, 1, 2)), {"o": ((1, 0), (2, 0), (2, 1))}, model, {"a": "c", "c": "a"}, NAMES)

    def test_values_that_are_no_blocks_are_numbered_in_the_new_order(self):
        model = Model(("a", "b"), {"t": ("terms",)}, (3, (0, 1)), {"t": ((FA, 2), (FB, 3), (("f", FA), 5), (("g", FA), 3),
                                                                         (("h", FB), 0))})
        found = self.check((3, (0, 1)), {"t": ((FA, 2), (FB, 3), (("f", FB), 4), (("g", FB), 2), (("h", FA), 1))}, model,
                           {"a": "b", "b": "a"}, ("a", "b"))
        self.assertEqual(renamed_model(found, {"a": "b", "b": "a"}).own_part("t"),
                         ((FA, 2), (FB, 3), (("f", FA), 4), (("g", FA), 3), (("h", FB), 0)))

    def test_no_names(self):
        model = Model((), {"u": ("ring", 2), "k": ("kinds", (("k", 2),))}, (2, ()), {"u": (), "k": ()})
        self.assertEqual(renamed_model(model, {"a": "b"}), model)

    def test_wrong_names(self):
        self.refuses(BadName, {"value": ("b", "b", "c")}, renamed_model, RING, {"a": "b"})
        self.refuses(BadName, {"value": "X"}, renamed_model, RING, {"c": "X"})
        self.refuses(BadName, {"value": "aa"}, renamed_model, RING, {"c": "b", "a": "aa"})

    def test_samples(self):
        moved = 0
        for source, model in model_samples(172, 200):
            mapping = dict(zip(model.names, source.sample(["a", "b", "c", "d", "e7"], len(model.names))))
            found = renamed_model(model, mapping)
            for literal in literals_for(source, model):
                self.assertIs(found.holds(renamed_literal(literal, mapping)), model.holds(literal))
            problem = Problem(model.names, model.theories(), {}).renamed(mapping)
            self.assertEqual((found.names, found.theories()), (problem.names, problem.theories()))
            moved += found.cell != model.cell
            self.check_values(model, found, mapping)
        self.assertTrue(moved > 10, moved)

    def check_values(self, model, found, mapping):
        """New things stay new things, and the values in the own parts of terms theories are as point 96 says."""
        for owner in [owner for owner in model.owners if model.card(owner) == ("terms",)]:
            own, new = model.own_part(owner), found.own_part(owner)
            blocks = max(found.cell[1], default=-1) + 1
            fresh = list(dict.fromkeys([value for _, value in new if value >= blocks]))
            self.assertEqual(fresh, list(range(blocks, blocks + len(fresh))))
            for term in terms_over(model.names, "fgh", 2):
                old_value = term_value(model.names, model.cell, own, term)
                new_value = term_value(found.names, found.cell, new, renamed_term(term, mapping))
                self.assertIs(isinstance(old_value, tuple), isinstance(new_value, tuple))


class ApartTest(LookerCase):
    OTHER = Model(NAMES, {"u": ("ring", 3), "o": ("below",)}, (3, (0, 1, 1)), {"u": (2, 0), "o": ()})

    def test_the_first_literal_that_holds_in_one_alone(self):
        both, first, second = negated(size_at_most(2)), same("a", "c"), same("b", "c")
        for literals in ([both, first, second], (both, first, None), (first,)):
            self.gives(first, apart, RING, self.OTHER, literals)
        self.gives(negated(second), apart, RING, self.OTHER, [negated(second), first])
        self.gives(None, apart, RING, self.OTHER, [both, negated(both), same("a", "b")])
        self.gives(None, apart, RING, self.OTHER, [])
        self.gives(turn("u", "c", "b", 1), apart, RING, self.OTHER, (turn("u", "a", "b", 1), turn("u", "c", "b", 1)))

    def test_wrong_literals(self):
        good, ring = same("a", "b"), turn("u", "a", "b", 1)
        self.refuses(NoOwner, {"owner": "o"}, apart, RING, self.OTHER, [good, below("o", "a", "b"), same("a", "c")])
        self.refuses(NoOwner, {"owner": "r"}, apart, RING, self.OTHER, [ring, word("r", "p"), same("a", "c")])
        self.refuses(NoOwner, {"owner": "r"}, apart, self.OTHER, RING, [good, word("r", "p"), None])
        self.refuses(BadLiteral, {"value": None}, apart, RING, self.OTHER, (good, None, word("x", "p")))
        self.refuses(BadLiteral, {"value": same("a", "d")}, apart, RING, Model(("a", "d"), {}, (3, (0, 0)), {}),
                     [same("a", "d")])
        self.refuses(BadLiteral, {"value": same("a", "b")}, apart, RING, Model(("a", "d"), {}, (3, (0, 0)), {}),
                     [same("a", "b")])

    def test_samples(self):
        found = {True: 0, False: 0}
        previous = None
        for source, model in model_samples(173, 300):
            if previous is not None and previous.names == model.names:
                literals = shared_literals(model.names)
                source.shuffle(literals)
                wanted = [literal for literal in literals if model.holds(literal) != previous.holds(literal)]
                self.gives(wanted[0] if wanted else None, apart, model, previous, literals)
                found[bool(wanted)] += 1
            previous = model
        self.assertTrue(min(found.values()) > 5, found)


class DescribedTest(LookerCase):

    def literals(self, problem):
        self.assertEqual(problem.labels, tuple(range(1, len(problem) + 1)))
        self.assertEqual([len(problem[label]) for label in problem], [1] * len(problem))
        found = [problem[label][0] for label in problem]
        self.assertEqual(found, sorted(found))
        return found

    def test_no_theories(self):
        problem = described(EMPTY)
        self.assertEqual((problem.names, problem.theories()), (NAMES, {}))
        self.assertEqual(self.literals(problem), [negated(same("a", "b")), same("a", "c"), negated(same("b", "c")),
                                                  negated(size_at_most(1)), negated(size_at_most(2))])
        self.assertEqual(self.literals(described(Model((), {}, (1, ()), {}))), [size_at_most(1), size_at_most(2)])
        self.assertEqual(self.literals(described(Model((), {}, (2, ()), {}))), [negated(size_at_most(1)), size_at_most(2)])

    def test_tables(self):
        found = self.literals(described(RING))[5:]
        self.assertEqual(found, list(clause_of([
            negated(word("r", "p")), word("r", "q"), negated(turn("u", "a", "b", 0)), turn("u", "a", "b", 1),
            negated(turn("u", "a", "b", 2)), turn("u", "a", "c", 0), negated(turn("u", "a", "c", 1)),
            negated(turn("u", "a", "c", 2)), negated(turn("u", "b", "c", 0)), negated(turn("u", "b", "c", 1)),
            turn("u", "b", "c", 2)])))

    def test_terms(self):
        found = [literal for literal in self.literals(described(FULL)) if literal[0][0] == "t"]
        self.assertEqual(found, list(clause_of([equal("t", FA, B), equal("t", ("g", FB), FB)])))
        model = Model(NAMES, {"t": ("terms",)}, (3, (0, 0, 1)), {"t": ((FA, 0), (("f", C), 2), (("g", A), 1), (("f", FA), 0))})
        found = [literal for literal in self.literals(described(model)) if literal[0][0] == "t"]
        self.assertEqual(found, list(clause_of([equal("t", FA, A), equal("t", ("g", A), C), equal("t", ("f", FA), A)])))

    def test_all_literals_of_all_owners(self):
        found = self.literals(described(FULL))
        self.assertEqual([literal for literal in found if literal[0][0] == "k"], list(clause_of([
            of_kind("k", "a", "k"), negated(of_kind("k", "a", "l")), negated(of_kind("k", "b", "k")),
            of_kind("k", "b", "l"), of_kind("k", "c", "k"), negated(of_kind("k", "c", "l"))])))
        self.assertEqual([literal for literal in found if literal[0][0] == "o"], list(clause_of([
            below("o", "a", "b"), negated(below("o", "a", "c")), negated(below("o", "b", "a")),
            negated(below("o", "b", "c")), negated(below("o", "c", "a")), below("o", "c", "b")])))

    def test_errors_of_the_constructor(self):
        wide = {owner: ("kinds", (("k", 0), ("l", 0), ("m", 0))) for owner in "wxyz"}
        parts = {owner: ("k", "l") for owner in wide}
        self.refuses(TooMany, {"what": "owners"}, described, Model(NAMES, wide, CELL, parts))
        terms = [((f"f{number}", A), 0) for number in range(41)]
        self.refuses(TooMany, {"what": "clauses"}, described, Model(NAMES, {"t": ("terms",)}, CELL, {"t": tuple(terms)}))
        terms = [((f"f{number}", FA), 0) for number in range(30)] + [((f"g{number}", A), number + 3) for number in range(20)]
        self.assertEqual(len(described(Model(NAMES, {"t": ("terms",)}, CELL, {"t": tuple(terms)}))), 35)
        self.refuses(BadName, {"value": "X"}, described, Model(("X",), {}, (3, (0,)), {}))

    def test_samples(self):
        described_terms = 0
        for _, model in model_samples(174, 200):
            problem = described(model)
            self.assertEqual((problem.names, problem.theories()), (model.names, model.theories()))
            self.assertTrue(model.satisfies(problem))
            self.assertEqual(standing(problem).rows, (model.cell,))
            found = self.literals(problem)
            shared = [literal for literal in shared_literals(model.names) if model.holds(literal)]
            self.assertEqual([literal for literal in found if literal[0][0] == ""], shared)
            for owner in model.owners:
                mine = [literal for literal in found if literal[0][0] == owner]
                if model.card(owner) == ("terms",):
                    described_terms += len(mine)
                    self.assertTrue(all(sign for _, sign in mine))
                else:
                    atoms = own_atoms(owner, model.card(owner), model.names)
                    self.assertEqual(sorted(atom for atom, _ in mine), atoms)
            for pick in fitting_picks(problem, model.cell):
                self.assertEqual(pick, tuple(found))
        self.assertTrue(described_terms > 15, described_terms)
