import random

from helper import LookerCase
from onelooker.cells import Cells
from onelooker.deciders import cells_of
from onelooker.errors import NamesMismatch
from onelooker.families import unit_sets
from onelooker.literals import below, negated, same, size_at_most
from onelooker.policies import Policy
from onelooker.standing import fitting_picks
from onelooker.telling import demand, is_stuck_point, told_literals
from slow import all_cells, random_problem
from slowrounds import KINDS, random_policy, sets_over, slow_demand, slow_quiet, slow_told

NAMES = ("a", "b")
AB, SIZE_1, SIZE_2 = same("a", "b"), size_at_most(1), size_at_most(2)
ALL = Cells.every(2)


def cells(*rows):
    return Cells(len(rows[0][1]), rows)


class TellingTest(LookerCase):

    def test_kinds_of_literals(self):
        known = Cells.where(NAMES, [AB, SIZE_1])
        self.gives([AB], told_literals, ("same",), NAMES, known, ALL)
        self.gives([], told_literals, ("other",), NAMES, known, ALL)
        self.gives([SIZE_1, SIZE_2], told_literals, ("size",), NAMES, known, ALL)
        self.gives([AB, SIZE_1, SIZE_2], told_literals, KINDS, NAMES, known, ALL)
        self.gives([], told_literals, ("some", "whole"), NAMES, known, ALL)
        self.gives([], told_literals, (), NAMES, known, ALL)
        apart = Cells.where(NAMES, [negated(AB), negated(SIZE_2)])
        self.gives([negated(AB)], told_literals, ("other", "same"), NAMES, apart, ALL)
        self.gives([negated(SIZE_1), negated(SIZE_2)], told_literals, ("size",), NAMES, apart, ALL)

    def test_what_was_heard_is_not_told(self):
        known, heard = Cells.where(NAMES, [AB, SIZE_1]), Cells.where(NAMES, [SIZE_2])
        self.gives([AB, SIZE_1], told_literals, KINDS, NAMES, known, heard)
        self.gives([AB, SIZE_1, SIZE_2], told_literals, KINDS, NAMES, known, cells((1, (0, 0)), (3, (0, 1))))
        self.gives([], told_literals, KINDS, NAMES, known, known)

    def test_the_live_set_is_what_counts(self):
        known, heard = Cells.where(NAMES, [negated(SIZE_1)]), Cells.where(NAMES, [SIZE_2])
        self.gives([negated(SIZE_1)], told_literals, ("size",), NAMES, known, heard)
        self.gives([negated(AB), negated(SIZE_1)], told_literals, KINDS, NAMES,
                   known - Cells.where(NAMES, [AB]), heard)

    def test_an_empty_live_set(self):
        heard = Cells.where(NAMES, [AB])
        none = Cells(2, [])
        self.gives([negated(AB), negated(SIZE_1), SIZE_1, negated(SIZE_2), SIZE_2], told_literals, KINDS, NAMES, none, heard)
        self.gives([negated(AB)], told_literals, ("other",), NAMES, none, heard)
        self.gives([], told_literals, ("same",), NAMES, none, heard)
        self.gives([], told_literals, KINDS, NAMES, ALL, none)

    def test_all_sets_by_the_words_of_points_124_to_126(self):
        source = random.Random(240)
        for width in range(4):
            names = ("a", "b", "c")[:width]
            every = sets_over(width) if width < 3 else [frozenset(source.sample(all_cells(3), source.randint(1, 10)))
                                                         for _ in range(60)]
            for known in source.sample(every, min(len(every), 32)):
                heard = source.choice(unit_sets(names))
                kinds = random_policy(source, "o").kinds("o")
                held = Cells(width, sorted(known))
                self.gives(slow_told(kinds, names, known, heard.rows), told_literals, kinds, names, held, heard)
                if known & set(heard.rows):
                    self.gives(slow_demand(kinds, names, known, heard.rows), demand, kinds, names, held, heard)
                quiet = slow_quiet(kinds, names, known, heard.rows)
                self.gives(quiet, is_stuck_point, Policy(o=kinds), names, heard, {"o": held})


class DemandTest(LookerCase):

    def test_some(self):
        names = ("a", "b", "c")
        live = cells((2, (0, 0, 1)), (2, (0, 1, 0)))
        every = (same("a", "b"), same("a", "c"), same("b", "c"))
        self.gives(every, demand, ("same", "some"), names, live, Cells.every(3))
        self.gives((), demand, ("same",), names, live, Cells.every(3))
        with_meet = live | cells((3, (0, 1, 2)))
        self.gives((), demand, ("same", "some"), names, with_meet, Cells.every(3))

    def test_pairs_that_the_meet_puts_together_are_not_demanded(self):
        names = ("a", "b", "c")
        live = cells((2, (0, 0, 1)), (2, (0, 1, 1)), (1, (0, 0, 0)))
        self.gives((same("a", "b"), same("a", "c"), same("b", "c")), demand, ("same", "some"), names, live, Cells.every(3))
        self.gives((), demand, ("same", "some"), names, cells((2, (0, 0, 1)), (1, (0, 0, 0))), Cells.every(3))

    def test_whole(self):
        self.gives((AB, negated(AB)), demand, ("whole",), NAMES, cells((1, (0, 0))), ALL)
        self.gives((SIZE_1, negated(SIZE_1)), demand, ("whole",), NAMES, ALL, Cells.where(NAMES, [AB]))
        self.gives((SIZE_2, negated(SIZE_2)), demand, ("whole",), NAMES, ALL, Cells.where(NAMES, [negated(AB)]))
        self.gives((), demand, ("whole",), NAMES, ALL, cells((2, (0, 1))))
        self.gives((SIZE_1, negated(SIZE_1)), demand, ("whole",), (), Cells.every(0), Cells.every(0))

    def test_some_comes_before_whole(self):
        names = ("a", "b", "c")
        live = cells((2, (0, 0, 1)), (2, (0, 1, 0)))
        every = (same("a", "b"), same("a", "c"), same("b", "c"))
        self.gives(every, demand, ("same", "some", "whole"), names, live, Cells.every(3))
        self.gives((every[0], negated(every[0])), demand, ("same", "whole"), names, live, Cells.every(3))
        self.gives((every[0], negated(every[0])), demand, ("same", "some", "whole"), names,
                   live | cells((3, (0, 1, 2))), Cells.every(3))

    def test_neither(self):
        for kinds in ((), ("same",), ("same", "other", "size")):
            self.gives((), demand, kinds, NAMES, cells((1, (0, 0)), (2, (0, 1))), ALL)


class StuckTest(LookerCase):

    def test_no_known_sets(self):
        for heard in (ALL, Cells(2, [])):
            self.gives(True, is_stuck_point, Policy(o=("whole",)), NAMES, heard, {})

    def test_an_empty_live_set_is_not_stuck(self):
        self.gives(False, is_stuck_point, Policy(), NAMES, Cells.where(NAMES, [AB]), {"o": Cells.where(NAMES, [negated(AB)])})
        self.gives(True, is_stuck_point, Policy(), NAMES, Cells.where(NAMES, [AB]), {"o": ALL})

    def test_each_owner_counts(self):
        known = {"o": ALL, "p": Cells.where(NAMES, [AB])}
        self.gives(True, is_stuck_point, Policy(o=("same", "size")), NAMES, ALL, known)
        self.gives(False, is_stuck_point, Policy(p=("same",)), NAMES, ALL, known)
        self.gives(True, is_stuck_point, Policy(p=("other", "size")), NAMES, ALL, known)
        self.gives(False, is_stuck_point, Policy(o=("whole",)), NAMES, ALL, known)
        self.gives(True, is_stuck_point, Policy(q=("whole",)), NAMES, ALL, known)

    def test_the_heard_set_need_not_be_a_unit_set(self):
        self.gives(True, is_stuck_point, Policy(), NAMES, cells((1, (0, 0)), (3, (0, 1))), {"o": ALL})

    def test_a_pick_that_fits_a_cell_is_stuck_there_under_every_policy(self):
        source = random.Random(241)
        seen = 0
        for _ in range(80):
            problem = random_problem(source)
            for cell in all_cells(len(problem.names)):
                for pick in list(fitting_picks(problem, cell))[:3]:
                    known = {owner: cells_of(problem.card(owner), problem.names,
                                             [each for each in pick if each[0][0] == owner]) for owner in problem.owners}
                    policy = random_policy(source, problem.owners)
                    for one in (policy, Policy.alike(problem.owners, KINDS), Policy()):
                        self.gives(True, is_stuck_point, one, problem.names, Cells(len(problem.names), [cell]), known)
                    seen += 1
        self.assertTrue(seen > 200, seen)

    def test_other_widths(self):
        self.refuses(NamesMismatch, {}, told_literals, KINDS, NAMES, Cells.every(1), ALL)
        known = cells_of(("below",), NAMES, [below("o", "a", "b")])
        self.gives([negated(AB)], told_literals, ("other",), NAMES, known, ALL)
