import random

from helper import LookerCase
from onelooker.cells import Cells
from onelooker.certificates import Certificate
from onelooker.deciding import decide
from onelooker.errors import BadRow, NamesMismatch, SharedOwner, Stands, TakenLabel, TooMany
from onelooker.interpolants import interpolant, row_sets
from onelooker.literals import below, negated, of_kind, same, size_at_most, turn, word
from onelooker.policies import Policy
from onelooker.problems import Problem
from onelooker.standing import standing
from slow import all_cells, random_certificate_rows, random_literals, random_problem, shared_of, shared_truth
from slowrounds import KINDS, random_theories

NAMES, EVERY = ("a", "b"), ("a", "b", "c")
AB, SIZE_1, SIZE_2 = same("a", "b"), size_at_most(1), size_at_most(2)
BELOW, TURN = below("o", "a", "b"), turn("u", "a", "b", 0)
LEFT = Problem(NAMES, {"o": ("below",)}, {1: (BELOW, AB), 2: (SIZE_1,)})
RIGHT = Problem(NAMES, {"u": ("ring", 2)}, {3: (negated(AB), TURN), 4: (negated(SIZE_1),)})


def slow_sets(left, right, rows, clauses):
    """The sets of rows with these clauses, by the words of point 168."""
    names, found = left.names, []
    every = frozenset(all_cells(len(names)))
    for row, clause in zip(rows, clauses):
        if row[0] == "resolve":
            low, high = found[row[1]], found[row[2]]
            found.append(low | high if row[3][0] in left.owners else low & high)
        elif row[0] == "given" and row[1] in left.labels or row[0] == "theory" and row[1] in left.owners:
            found.append(frozenset(cell for cell in every if any(
                shared_truth(names, cell, literal) for literal in clause if literal[0][0] == "")))
        else:
            found.append(every)
    return [tuple(sorted(cells)) for cells in found]


def apart_problem(source, names, owners, labels, literals):
    """Some problem about these names; of the shared literals, it has some of the given ones."""
    cards = random_theories(source, names, most=1)
    theories = dict(zip(owners, cards.values()))
    own = [literal for owner, card in theories.items() for literal in random_literals(source, owner, card, names, 3)]
    return Problem(names, theories, {
        label: tuple(source.choice(literals + own) for _ in range(source.randint(1, 2)))
        for label in source.sample(labels, source.randint(1, 4))})


class RowSetsTest(LookerCase):

    def test_by_the_words_of_point_168(self):
        source = random.Random(360)
        resolved = 0
        for _ in range(120):
            whole = random_problem(source, clauses=5, longest=2, width=2)
            owners = source.sample(whole.owners, len(whole.owners) // 2)
            labels = [label for label in whole if source.random() < 0.5
                      and not any(literal[0][0] not in ("", *owners) for literal in whole[label])]
            rest = [label for label in whole if label not in labels
                    and not any(literal[0][0] in owners for literal in whole[label])]
            left = Problem(whole.names, {owner: whole.card(owner) for owner in owners}, {at: whole[at] for at in labels})
            right = Problem(whole.names, {owner: whole.card(owner) for owner in whole.owners if owner not in owners},
                            {at: whole[at] for at in rest})
            rows, clauses = random_certificate_rows(source, left + right)
            found = row_sets(left, right, Certificate(rows))
            self.assertTrue(all(type(cells) is Cells and cells.width == len(whole.names) for cells in found))
            self.assertEqual([cells.rows for cells in found], slow_sets(left, right, rows, clauses))
            resolved += len([row for row in rows if row[0] == "resolve"])
        self.assertTrue(resolved > 100, resolved)

    def test_each_kind_of_row(self):
        rows = [("given", 1), ("given", 3), ("theory", "o", (negated(AB), negated(BELOW))),
                ("theory", "u", (negated(AB), TURN)), ("theory", "", (negated(SIZE_1), SIZE_2)),
                ("theory", "o", (negated(SIZE_1), SIZE_2)),
                ("resolve", 0, 2, BELOW[0]), ("resolve", 0, 1, AB[0]), ("given", 2)]
        every, together = Cells.every(2), Cells.where(NAMES, [AB])
        self.assertEqual(row_sets(LEFT, RIGHT, Certificate(rows)), [
            together, every, ~together, every, every, every, every, together, Cells.where(NAMES, [SIZE_1])])

    def test_no_rows(self):
        self.assertEqual(row_sets(LEFT, RIGHT, Certificate([])), [])

    def test_errors_of_the_problems(self):
        other = Problem(("a",), {"o": ("below",)}, {1: (SIZE_1,)})
        wrong = Certificate([("given", 99)])
        both = Problem(NAMES, {"u": ("ring", 3), "o": ("ring", 2)}, {2: (AB,), 1: (AB,)})
        many = Problem(NAMES, {"p": ("below",), "q": ("below",), "r": ("below",)}, {9: (AB,)})
        for call in (row_sets, interpolant):
            self.refuses(NamesMismatch, {}, call, LEFT, other, wrong)
            self.refuses(SharedOwner, {"owner": "o"}, call, LEFT, both, wrong)
            self.refuses(SharedOwner, {"owner": "o"}, call, both, LEFT + RIGHT, wrong)
            self.refuses(SharedOwner, {"owner": "o"}, call, LEFT, LEFT, wrong)
            self.refuses(TakenLabel, {"label": 1}, call, LEFT, Problem(NAMES, {}, {2: (AB,), 1: (AB,)}), wrong)
            self.refuses(TooMany, {"what": "owners"}, call, LEFT, many, wrong)
            full = Problem(NAMES, {}, {label: (AB,) for label in range(10, 49)})
            self.refuses(TooMany, {"what": "clauses"}, call, LEFT, full, wrong)

    def test_wrong_rows(self):
        for rows, index in (([("given", 5)], 0), ([("given", 1), ("given", 3), ("resolve", 0, 1, SIZE_1[0])], 2),
                            ([("given", 1), ("theory", "u", (negated(AB), negated(BELOW)))], 1),
                            ([("given", 4), ("theory", "q", ())], 1), ([None], 0)):
            for call in (row_sets, interpolant):
                self.refuses(BadRow, {"index": index}, call, LEFT, RIGHT, Certificate(rows))

    def test_the_sides_count(self):
        rows = Certificate([("given", 1), ("theory", "o", (negated(AB), negated(BELOW))), ("resolve", 0, 1, BELOW[0])])
        left = Problem(NAMES, {"o": ("below",)}, {1: (AB, BELOW)})
        right = Problem(NAMES, {}, {3: (AB,)})
        together = Cells.where(NAMES, [AB])
        self.assertEqual(row_sets(left, right, rows), [together, ~together, Cells.every(2)])
        self.assertEqual(row_sets(right, left, rows), [Cells.every(2)] * 3)


class InterpolantTest(LookerCase):

    def check(self, left, right, certificate):
        """What point 169 says, both ways."""
        for low, high in ((left, right), (right, left)):
            found = interpolant(low, high, certificate)
            self.assertIs(type(found), Cells)
            self.assertEqual(found, row_sets(low, high, certificate)[-1])
            self.assertTrue(standing(low).within(found))
            self.assertEqual(len(standing(high) & found), 0)
        return interpolant(left, right, certificate)

    def test_certificates_that_are_decided(self):
        source = random.Random(361)
        seen, strict = 0, 0
        while seen < 80:
            names = EVERY[:source.randint(1, 3)]
            literals = source.sample(shared_of(names), 3)
            left = apart_problem(source, names, "op", range(1, 20), literals)
            right = apart_problem(source, names, "qr", range(30, 50), [(atom, not sign) for atom, sign in literals])
            outcome = decide(left + right, Policy.alike((left + right).owners, KINDS))
            if outcome.verdict == "certificate" and len(standing(left)) > 0 and len(standing(right)) > 0:
                found = self.check(left, right, outcome.certificate)
                strict += found != standing(left)
                seen += 1
        self.assertTrue(strict > 10, strict)

    def test_an_example(self):
        self.assertEqual(decide(LEFT + RIGHT, Policy()).verdict, "certificate")
        rows = Certificate([("given", 2), ("given", 4), ("resolve", 0, 1, SIZE_1[0])])
        self.assertEqual(self.check(LEFT, RIGHT, rows), Cells.where(NAMES, [SIZE_1]))
        self.assertEqual(interpolant(RIGHT, LEFT, rows), ~Cells.where(NAMES, [SIZE_1]))

    def test_resolving_on_own_atoms(self):
        kinds = ("kinds", (("k", 0), ("l", 1)))
        left = Problem.of(NAMES, (of_kind("k", "a", "l"),), (of_kind("k", "b", "l"),), k=kinds)
        right = Problem(NAMES, {"o": ("below",)}, {7: (BELOW,)})
        outcome = decide(left + right, Policy(k=("same",), o=("other",)))
        found = self.check(left, right, outcome.certificate)
        self.assertTrue(found.within(Cells.where(NAMES, [AB])))
        self.assertIn((3, (0, 0)), found)

    def test_no_rows_and_other_conclusions(self):
        self.refuses(BadRow, {"index": 0}, interpolant, LEFT, RIGHT, Certificate([]))
        self.refuses(Stands, {}, interpolant, LEFT, RIGHT, Certificate([("given", 1)]))
        rows = [("given", 2), ("given", 4), ("resolve", 0, 1, SIZE_1[0]), ("given", 1)]
        self.refuses(Stands, {}, interpolant, LEFT, RIGHT, Certificate(rows))
        self.refuses(BadRow, {"index": 4}, interpolant, LEFT, RIGHT, Certificate([*rows, ("given", 8)]))

    def test_words_of_both_sides(self):
        card = ("rows", (((1, (0, 0)), ("p",)), ((2, (0, 1)), ())))
        left = Problem(NAMES, {"r": card}, {1: (word("r", "p"), SIZE_2)})
        right = Problem(NAMES, {"s": card}, {2: (negated(word("s", "p")),), 3: (AB,)})
        outcome = decide(left + right, Policy.alike(("r", "s"), ("whole",)))
        self.assertEqual(outcome.verdict, "certificate")
        found = self.check(left, right, outcome.certificate)
        self.assertIn((1, (0, 0)), found)
