import copy
import random

from helper import LookerCase
from onelooker.certificates import Certificate
from onelooker.checking import check, row_clauses
from onelooker.deciders import clashes
from onelooker.errors import BadRow
from onelooker.literals import below, clause_of, negated, negations, renamed_literal, same, size_at_most, word
from onelooker.problems import Problem
from onelooker.trimming import (discharged, joined, leans, merged, relabelled, renamed_certificate, theory_owners,
                                tightened, trimmed)
from slow import random_certificate_rows, random_problem, refutations

NAMES = ("a", "b")
SAME, SIZE_1, SIZE_2 = same("a", "b"), size_at_most(1), size_at_most(2)
AB, BA = below("o", "a", "b"), below("o", "b", "a")
P, Q = word("r", "p"), word("r", "q")
ORDER = clause_of([negated(AB), negated(BA)])
# Its last row rests on the rows 0, 1, 2, 4 and 5.
ROWS = [("given", 3), ("theory", "o", ORDER), ("given", 7), ("given", 7), ("resolve", 0, 1, AB[0]),
        ("resolve", 2, 4, BA[0])]
CUT = [("given", 3), ("theory", "o", ORDER), ("given", 7), ("resolve", 0, 1, AB[0]), ("resolve", 2, 3, BA[0])]


def samples(seed, many, **more):
    """Problems, and rows of certificates that are accepted for them, always the same for a seed."""
    source = random.Random(seed)
    for _ in range(many):
        problem = random_problem(source, **more)
        rows, clauses = random_certificate_rows(source, problem)
        yield source, problem, rows, clauses
    for _, problem, rows in refutations(seed, many // 5):
        yield source, problem, rows, row_clauses(problem, Certificate(rows))


class TrimmingCase(LookerCase):

    def turns(self, wanted, call, *certificates, **more):
        """The call gives a certificate with these rows, and changes no argument."""
        before = copy.deepcopy(([each.rows if isinstance(each, Certificate) else each for each in certificates], more))
        found = call(*certificates, **more)
        self.assertIs(type(found), Certificate)
        self.assertEqual(repr(found.rows), repr(tuple(wanted)))
        self.assertEqual(([each.rows if isinstance(each, Certificate) else each for each in certificates], more), before)
        return found


def rests(rows, index):
    """The indexes of the rows on which a row rests, by the words of point 81."""
    if rows[index][0] != "resolve":
        return {index}
    return {index} | rests(rows, rows[index][1]) | rests(rows, rows[index][2])


def cut(rows, end):
    """The rows on which a row rests, with their indexes renumbered."""
    kept = sorted(rests(rows, end))
    return [("resolve", kept.index(row[1]), kept.index(row[2]), row[3]) if row[0] == "resolve" else row
            for row in [rows[index] for index in kept]]


class TrimmedTest(TrimmingCase):

    def test_to_the_last_row(self):
        self.turns(CUT, trimmed, Certificate(ROWS))
        self.turns(CUT, trimmed, Certificate(ROWS), end=None)
        self.turns(CUT, trimmed, Certificate(ROWS), end=5)
        self.turns(CUT, trimmed, Certificate(CUT))

    def test_to_the_first_and_a_middle_row(self):
        self.turns(ROWS[:1], trimmed, Certificate(ROWS), end=0)
        self.turns([("given", 7)], trimmed, Certificate(ROWS), end=3)
        self.turns([*ROWS[:2], ("resolve", 0, 1, AB[0])], trimmed, Certificate(ROWS), end=4)

    def test_without_rows(self):
        self.turns([], trimmed, Certificate([]))
        self.turns([], trimmed, Certificate([]), end=None)

    def test_wrong_ends(self):
        for end in (-1, 6, 100, True, False, "0", (), 5.5):
            self.refuses(BadRow, {"index": end}, trimmed, Certificate(ROWS), end=end)
        for end in (0, -1, 1):
            self.refuses(BadRow, {"index": end}, trimmed, Certificate([]), end=end)

    def test_long_chains(self):
        rows = [("given", 1), ("given", 2)]
        rows += [("resolve", at, at + 1, AB[0]) for at in range(3000)]
        self.turns(rows, trimmed, Certificate(rows))
        self.turns(rows[:3], trimmed, Certificate(rows), end=2)

    def test_samples(self):
        for _, problem, rows, clauses in samples(130, 100):
            for end in range(len(rows)):
                found = self.turns(cut(rows, end), trimmed, Certificate(rows), end=end)
                self.assertEqual(check(problem, found), clauses[end])
            if rows:
                self.turns(cut(rows, len(rows) - 1), trimmed, Certificate(rows))


def merge(rows):
    """The rows of the merged certificate, by the words of point 83."""
    new, stands = [], []
    for row in rows:
        if row[0] == "resolve":
            row = ("resolve", stands[row[1]], stands[row[2]], row[3])
        if row not in new:
            new.append(row)
        stands.append(new.index(row))
    return cut(new, stands[-1]) if rows else []


class MergedTest(TrimmingCase):

    def test_equal_rows(self):
        self.turns([("given", 3)], merged, Certificate([("given", 3), ("given", 3), ("given", 3)]))
        rows = [("given", 3), ("theory", "o", ORDER), ("resolve", 0, 1, AB[0]), ("given", 3), ("theory", "o", ORDER),
                ("resolve", 3, 4, AB[0]), ("given", 7), ("resolve", 6, 5, BA[0])]
        self.turns([*rows[:3], ("given", 7), ("resolve", 3, 2, BA[0])], merged, Certificate(rows))

    def test_the_last_row_may_be_equal_to_an_earlier_one(self):
        self.turns([("given", 3)], merged, Certificate([("given", 3), ("given", 7), ("given", 3)]))
        self.turns([*ROWS[:2], ("resolve", 0, 1, AB[0])], merged,
                   Certificate([*ROWS, ("given", 3), ("resolve", 6, 1, AB[0])]))

    def test_rows_that_are_not_needed(self):
        self.turns(CUT, merged, Certificate(ROWS))
        self.turns([("given", 9)], merged, Certificate([*ROWS, ("given", 9)]))

    def test_without_rows(self):
        self.turns([], merged, Certificate([]))

    def test_equal_clauses_of_other_rows_are_not_merged(self):
        rows = [("theory", "", (SAME, SIZE_1)), ("theory", "o", (SAME, SIZE_1)), ("resolve", 0, 1, SAME[0])]
        self.turns(rows, merged, Certificate(rows))

    def test_samples(self):
        for _, problem, rows, clauses in samples(131, 120):
            double = Certificate(rows) + Certificate(rows)
            for certificate in (Certificate(rows), double):
                found = self.turns(merge(certificate.rows), merged, certificate)
                if rows:
                    self.assertEqual(check(problem, found), clauses[-1])
                    self.assertEqual(len(set(found.rows)), len(found))


class JoinedTest(TrimmingCase):

    def test_the_last_rows_are_resolved(self):
        first, second = Certificate(ROWS[:1]), Certificate(ROWS[1:2])
        self.turns([*ROWS[:2], ("resolve", 0, 1, AB[0])], joined, first, second, AB[0])
        self.turns([*ROWS, ("given", 3), ("theory", "o", ORDER), ("resolve", 6, 7, AB[0]), ("resolve", 5, 8, SAME[0])],
                   joined, Certificate(ROWS), joined(first, second, AB[0]), SAME[0])

    def test_without_rows(self):
        for first, second in [([], []), ([], ROWS), (ROWS, [])]:
            self.refuses(BadRow, {"index": 0}, joined, Certificate(first), Certificate(second), AB[0])

    def test_samples(self):
        joins = 0
        for source, problem, rows, clauses in samples(132, 100):
            for at, clause in enumerate(clauses):
                for atom in [atom for atom, sign in clause if sign]:
                    for other in [other for other, found in enumerate(clauses) if (atom, False) in found][:2]:
                        made = joined(Certificate(rows[:at + 1]), Certificate(rows[:other + 1]), atom)
                        self.assertEqual(len(made), at + other + 3)
                        wanted = (set(clause) - {(atom, True)}) | (set(clauses[other]) - {(atom, False)})
                        self.assertEqual(check(problem, made), tuple(sorted(wanted)))
                        joins += 1
        self.assertTrue(joins > 200, joins)


class LeansTest(TrimmingCase):

    def test_labels_and_owners(self):
        certificate = Certificate([*ROWS, ("theory", "", (SAME, SIZE_1)), ("theory", "e", ()), ("given", 1)])
        self.gives((1, 3, 7), leans, certificate)
        self.gives(("", "e", "o"), theory_owners, certificate)
        self.gives((), leans, Certificate([]))
        self.gives((), theory_owners, Certificate([]))
        self.gives((), leans, Certificate.theory("", (SAME,)))
        self.gives((), theory_owners, Certificate.given(5))

    def test_only_the_labels_on_which_it_leans_are_needed(self):
        for _, problem, rows, clauses in samples(133, 60):
            certificate = Certificate(rows)
            wanted = sorted({row[1] for row in rows if row[0] == "given"})
            self.gives(tuple(wanted), leans, certificate)
            self.gives(tuple(sorted({row[1] for row in rows if row[0] == "theory"})), theory_owners, certificate)
            self.assertEqual(row_clauses(problem.only(wanted), certificate), clauses)


class RenamedTest(TrimmingCase):

    def test_literals_and_atoms(self):
        shared = clause_of([negated(same("a", "b")), same("a", "c"), negated(same("b", "c"))])
        rows = [("given", 3), ("theory", "o", ORDER), ("resolve", 0, 1, AB[0]), ("theory", "", shared),
                ("resolve", 2, 3, ("", "same", "a", "b"))]
        wanted = [("given", 3), ("theory", "o", clause_of([negated(below("o", "z", "b")), negated(below("o", "b", "z"))])),
                  ("resolve", 0, 1, ("o", "below", "z", "b")),
                  ("theory", "", clause_of([negated(same("b", "z")), same("c", "z"), negated(same("b", "c"))])),
                  ("resolve", 2, 3, ("", "same", "b", "z"))]
        self.turns(wanted, renamed_certificate, Certificate(rows), {"a": "z", "y": "b"})
        self.turns(rows, renamed_certificate, Certificate(rows), {})
        self.turns([], renamed_certificate, Certificate([]), {"a": "b"})

    def test_swapped_names(self):
        rows = [("theory", "o", ORDER), ("resolve", 0, 0, BA[0]), ("resolve", 0, 0, SAME[0])]
        self.turns([("theory", "o", ORDER), ("resolve", 0, 0, AB[0]), ("resolve", 0, 0, SAME[0])],
                   renamed_certificate, Certificate(rows), {"a": "b", "b": "a"})

    def test_samples(self):
        for source, problem, rows, clauses in samples(134, 100):
            mapping = dict(zip(problem.names, source.sample(["a", "b", "c", "d", "e9"], len(problem.names))))
            found = renamed_certificate(Certificate(rows), mapping)
            wanted = [clause_of([renamed_literal(literal, mapping) for literal in clause]) for clause in clauses]
            self.assertEqual(row_clauses(problem.renamed(mapping), found), wanted)
            back = {new: old for old, new in mapping.items()}
            self.assertEqual(renamed_certificate(found, back), Certificate(rows))


class RelabelledTest(TrimmingCase):

    def test_labels(self):
        self.turns([("given", 8), *ROWS[1:]], relabelled, Certificate(ROWS), {3: 8, 1: 2})
        self.turns([("given", 7), ROWS[1], ("given", 3), ("given", 3), *ROWS[4:]], relabelled, Certificate(ROWS),
                   {3: 7, 7: 3})
        self.turns(ROWS, relabelled, Certificate(ROWS), {})
        self.turns([], relabelled, Certificate([]), {1: 2})

    def test_samples(self):
        for source, problem, rows, clauses in samples(135, 60):
            mapping = dict(zip(problem.labels, source.sample(range(1, 1000), len(problem))))
            moved = Problem(problem.names, problem.theories(), {mapping[label]: problem[label] for label in problem})
            self.assertEqual(row_clauses(moved, relabelled(Certificate(rows), mapping)), clauses)


class DischargedTest(TrimmingCase):

    def test_given_rows_of_assumptions(self):
        rows = [("given", 1), ("given", 2), ("theory", "o", ORDER), ("given", 1), ("resolve", 0, 2, AB[0])]
        self.turns([("theory", "o", (negated(AB), AB)), *rows[1:3], ("theory", "o", (negated(AB), AB)), rows[4]],
                   discharged, Certificate(rows), {1: AB})
        self.turns([rows[0], ("theory", "", (negated(SAME), SAME)), *rows[2:]], discharged, Certificate(rows),
                   {2: negated(SAME)})

    def test_indexes_are_no_labels(self):
        rows = [("given", 2), ("theory", "o", ORDER), ("resolve", 1, 1, AB[0]), ("resolve", 2, 1, AB[0])]
        self.turns(rows, discharged, Certificate(rows), {1: AB})
        self.turns([("theory", "o", (negated(AB), AB)), *rows[1:]], discharged, Certificate(rows), {1: BA, 2: AB})
        self.turns([("given", 9), *rows[1:]], relabelled, Certificate(rows), {1: 8, 2: 9})
        self.gives((2,), leans, Certificate(rows))

    def test_a_label_that_no_row_has(self):
        self.turns(ROWS, discharged, Certificate(ROWS), {4: AB})
        self.turns(ROWS, discharged, Certificate(ROWS), {})
        self.turns([], discharged, Certificate([]), {4: AB})

    def test_samples(self):
        used = 0
        for source, problem, rows, clauses in samples(136, 150, longest=2):
            units = {label: problem[label][0] for label in problem if len(problem[label]) == 1}
            assumptions = {label: units[label] for label in units if source.random() < 0.7}
            found = discharged(Certificate(rows), assumptions)
            self.assertFalse(set(leans(found)) & set(assumptions))
            rest = problem.only([label for label in problem if label not in assumptions])
            denied = negations(list(assumptions.values()))
            for new, old in zip(row_clauses(rest, found), clauses):
                self.assertLessEqual(set(old), set(new))
                self.assertLessEqual(set(new) - set(old), set(denied))
            used += len(assumptions)
        self.assertTrue(used > 50, used)


def least(card, names, literals):
    """The least clash by the words of point 73."""
    kept = sorted(set(literals))
    for literal in sorted(set(literals)):
        others = [other for other in kept if other != literal]
        kept = others if clashes(card, names, others) else kept
    return kept


def tighten(problem, rows):
    """The rows of the tightened certificate, by the words of point 87."""
    new, clauses, stands = [], [], []
    for row in rows:
        if row[0] == "resolve":
            _, first, second, atom = row
            low, high = stands[first], stands[second]
            if (atom, True) not in clauses[low]:
                stands.append(low)
                continue
            if (atom, False) not in clauses[high]:
                stands.append(high)
                continue
            new.append(("resolve", low, high, atom))
            clauses.append((clauses[low] - {(atom, True)}) | (clauses[high] - {(atom, False)}))
        elif row[0] == "given":
            new.append(row)
            clauses.append(set(problem[row[1]]))
        else:
            card = problem.card(row[1]) if row[1] else None
            clauses.append(set(negations(least(card, problem.names, negations(row[2])))))
            new.append(("theory", row[1], tuple(sorted(clauses[-1]))))
        stands.append(len(new) - 1)
    return cut(new, stands[-1]) if rows else []


class TightenedTest(TrimmingCase):
    PROBLEM = Problem(NAMES, {"o": ("below",), "r": ("rows", (((3, (0, 1)), ("p",)), ((3, (0, 1)), ("q",))))},
                      {3: (AB,), 4: (SAME, P), 5: (BA, Q)})

    def test_theory_rows_get_the_least_clause(self):
        wide = clause_of([*ORDER, SAME, SIZE_1])
        self.turns([("theory", "o", ORDER)], tightened, self.PROBLEM, Certificate([("theory", "o", wide)]))
        self.turns([("theory", "r", (negated(SAME),))], tightened, self.PROBLEM,
                   Certificate([("theory", "r", clause_of([negated(SAME), P, SIZE_2]))]))
        self.turns([("theory", "", (negated(SIZE_1), SIZE_1))], tightened, self.PROBLEM,
                   Certificate([("theory", "", clause_of([negated(SIZE_1), SIZE_1, SAME]))]))

    def test_resolve_rows_that_are_left_out(self):
        wide = clause_of([*ORDER, SAME])
        rows = [("theory", "o", wide), ("theory", "r", (negated(SAME),)), ("resolve", 0, 1, SAME[0])]
        self.turns([("theory", "o", ORDER)], tightened, self.PROBLEM, Certificate(rows))
        rows = [("given", 4), ("theory", "r", (negated(SAME), negated(P))), ("resolve", 0, 1, P[0])]
        self.turns([("theory", "r", (negated(SAME),))], tightened, self.PROBLEM, Certificate(rows))

    def test_resolve_rows_that_stay(self):
        rows = [("given", 4), ("theory", "r", clause_of([negated(P), negated(Q), negated(SAME)])),
                ("resolve", 0, 1, P[0])]
        self.turns([("given", 4), ("theory", "r", (negated(P), negated(Q))), ("resolve", 0, 1, P[0])], tightened,
                   self.PROBLEM, Certificate(rows))

    def test_the_first_row_stands_if_both_lost_the_literal(self):
        torn = clause_of([negated(SIZE_1), SIZE_1])
        rows = [("theory", "o", clause_of([*ORDER, SIZE_1])), ("theory", "o", clause_of([*ORDER, *torn])),
                ("resolve", 0, 1, SIZE_1[0])]
        found = tightened(self.PROBLEM, Certificate(rows))
        self.assertEqual(found.rows, tuple(tighten(self.PROBLEM, rows)))
        self.assertEqual(found.rows, (("theory", "o", ORDER),))

    def test_equal_rows_stay(self):
        rows = [("given", 3), ("given", 5), ("theory", "o", ORDER), ("theory", "o", ORDER), ("resolve", 0, 2, AB[0]),
                ("resolve", 1, 3, BA[0]), ("given", 3), ("resolve", 6, 5, AB[0])]
        self.turns([("given", 5), ("theory", "o", ORDER), ("resolve", 0, 1, BA[0]), ("given", 3),
                    ("resolve", 3, 2, AB[0])], tightened, self.PROBLEM, Certificate(rows))

    def test_without_rows(self):
        self.turns([], tightened, self.PROBLEM, Certificate([]))

    def test_rows_that_are_not_right(self):
        for rows in [[("given", 9)], [("theory", "o", (AB,))], [None], [("resolve", 0, 0, AB[0])]]:
            self.refuses(BadRow, {"index": 0}, tightened, self.PROBLEM, Certificate(rows))
            self.refuses(BadRow, {"index": 1}, tightened, self.PROBLEM, Certificate([("given", 3), *rows, None]))

    def test_samples(self):
        shorter = 0
        for _, problem, rows, clauses in samples(137, 150):
            found = self.turns(tighten(problem, rows), tightened, problem, Certificate(rows))
            if rows:
                self.assertLessEqual(set(check(problem, found)), set(clauses[-1]))
                shorter += len(found) < len(cut(rows, len(rows) - 1))
        self.assertTrue(shorter > 3, shorter)
