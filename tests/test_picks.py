import itertools
import random

from helper import LookerCase, all_valuations, random_clauses
from onelooker.literals import negated, same, word
from onelooker.picks import is_torn, least_units, picks

P, Q, R, S = [word("o", text) for text in "pqrs"]
NOT_P, NOT_Q, NOT_R = [negated(literal) for literal in (P, Q, R)]


def torn(literals):
    return any((atom, not sign) in literals for atom, sign in literals)


def all_units(clauses):
    """The units by the words of point 57, found among the literals of all picks."""
    found = set()
    for pick in itertools.product(*clauses):
        chosen = tuple(sorted(set(pick)))
        if not torn(chosen):
            fewer = [[other for other in chosen if other != literal] for literal in chosen]
            if not any(all(set(rest) & set(literals) for literals in clauses) for rest in fewer):
                found.add(chosen)
    return sorted(found)


class PicksTest(LookerCase):

    def test_no_clauses(self):
        self.assertEqual(list(picks([])), [()])
        self.assertEqual(list(picks(())), [()])

    def test_an_empty_clause(self):
        for clauses in [[()], [(P, Q), ()], [(), (P,)], ((P,), (), (Q,))]:
            self.assertEqual(list(picks(clauses)), [])

    def test_the_last_clause_changes_fastest(self):
        self.assertEqual(repr(list(picks([(P, Q), (R,), (NOT_P, S)]))),
                         repr([(P, R, NOT_P), (P, R, S), (Q, R, NOT_P), (Q, R, S)]))
        self.assertEqual(list(picks(((P,),))), [(P,)])
        self.assertEqual(list(picks([(Q, P)])), [(Q,), (P,)])

    def test_a_clause_twice(self):
        self.assertEqual(list(picks([(P, Q), (P, Q)])), [(P, P), (P, Q), (Q, P), (Q, Q)])

    def test_samples(self):
        source = random.Random(70)
        for _ in range(60):
            clauses = random_clauses(source, 5, 5, 4)
            self.assertEqual(list(picks(clauses)), list(itertools.product(*clauses)))

    def test_picks_are_generated(self):
        clauses = [(P, NOT_P)] * 300
        found = picks(clauses)
        self.assertIs(iter(found), found)
        self.assertEqual(next(found), (P,) * 300)
        self.assertEqual(next(found), (P,) * 299 + (NOT_P,))
        self.assertEqual(next(found), (P,) * 298 + (NOT_P, P))
        self.assertEqual(clauses, [(P, NOT_P)] * 300)

    def test_nothing_is_read_before_the_first_pick_is_asked_for(self):
        clauses = [(P, Q)]
        found = picks(clauses)
        clauses.append((R,))
        self.assertEqual(list(found), [(P, R), (Q, R)])
        found = picks(None)
        with self.assertRaises(TypeError):
            next(found)


class TornTest(LookerCase):

    def test_torn(self):
        for literals in [(P, NOT_P), [NOT_P, Q, P], (R, P, Q, NOT_R), (same("a", "b"), negated(same("a", "b")))]:
            self.gives(True, is_torn, literals)

    def test_not_torn(self):
        for literals in [(), [], (P,), (NOT_P,), [P, P], (P, Q, NOT_R), (P, word("p", "p")),
                         (P, negated(word("x", "p")))]:
            self.gives(False, is_torn, literals)


class UnitsTest(LookerCase):

    def test_no_clauses(self):
        self.gives([()], least_units, [])
        self.gives([()], least_units, ())

    def test_an_empty_clause(self):
        self.gives([], least_units, [()])
        self.gives([], least_units, [(P, Q), ()])

    def test_units(self):
        self.gives([(P,), (Q,)], least_units, [(P, Q)])
        self.gives([(P, Q)], least_units, ((Q,), (P,)))
        self.gives([(P,)], least_units, [(P,), (P, Q)])
        self.gives([(P, R), (Q,)], least_units, [(P, Q), (Q, R)])
        self.gives([], least_units, [(P,), (NOT_P,)])
        self.gives([(NOT_P, Q), (P, NOT_Q)], least_units, [(P, Q), (NOT_P, NOT_Q)])
        self.gives([(NOT_P,), (P,)], least_units, [(NOT_P, P)])

    def test_a_clause_twice(self):
        self.gives([(P,), (Q,)], least_units, [(P, Q), (P, Q)])
        self.gives([(P, R)], least_units, [(P,), (R,), (P,)])

    def test_very_many_picks(self):
        literals = [word("o", f"w{number}") for number in range(6)]
        everything = tuple(sorted(literals + [negated(literal) for literal in literals]))
        self.gives([(literal,) for literal in everything], least_units, [everything] * 300)
        found = least_units([tuple(literals)] * 150 + [tuple(negated(literal) for literal in literals)] * 150)
        self.assertEqual(found, sorted(tuple(sorted((first, negated(second)))) for first in literals
                                       for second in literals if first != second))

    def test_samples(self):
        source = random.Random(71)
        ends = {True: 0, False: 0}
        for _ in range(200):
            clauses = random_clauses(source, 5, 6, 4)
            wanted = all_units(clauses)
            self.gives(wanted, least_units, clauses)
            ends[wanted == []] += 1
            for chosen in all_valuations(clauses):
                self.assertTrue(any(set(unit) <= set(chosen) for unit in wanted))
            for unit in wanted:
                self.assertTrue(any(sorted(set(pick)) == list(unit) for pick in picks(clauses)))
        self.assertTrue(ends[True] > 20 and ends[False] > 50)

    def test_units_of_the_units(self):
        source = random.Random(72)
        for _ in range(80):
            clauses = [literals for literals in random_clauses(source, 4, 4, 3) if not torn(literals)]
            every = all_valuations(clauses)
            found = []
            for literals in every_clause(4):
                hits = [set(literals) & set(chosen) for chosen in every]
                if not torn(literals) and all(hits):
                    if all(any(hit == {literal} for hit in hits) for literal in literals):
                        found.append(literals)
            inside = {atom for literals in clauses for atom, _ in literals}
            found = [literals for literals in found if {atom for atom, _ in literals} <= inside]
            self.assertEqual(least_units(least_units(clauses)), sorted(found))


def every_clause(many):
    """All clauses without a literal and its negation over so many of the atoms that random_clauses takes."""
    found = [()]
    for number in range(many):
        atom = ("o", "word", f"w{number}")
        found = [(*literals, *more) for literals in found for more in ((), ((atom, False),), ((atom, True),))]
    return found
