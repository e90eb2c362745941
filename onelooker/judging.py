"""Gaps of policies, complete policies, and stuck problems (points 129 to 137)."""

from onelooker.cells import Cells
from onelooker.deciders import cells_of
from onelooker.families import family, family_sets, unit_sets
from onelooker.literals import clause_of, owner_of, shared_literals
from onelooker.problems import Problem
from onelooker.telling import Views


def _least(sets):
    """Those of different sets, as integers, that contain no other of them."""
    return [one for one in sets if not any([other & one == other and other != one for other in sets])]


class Judge:
    """Finds the gaps of policies for some names and theories."""

    def __init__(self, names, theories):
        self.owners = sorted(list(theories))
        self.units = unit_sets(names)
        self._views = Views(names)
        self._families = {owner: self._family(owner, theories[owner], names) for owner in self.owners}

    def _family(self, owner, card, names):
        """The sets of the family of a theory, as integers."""
        return [self._views.bits_of(cells) for cells in family_sets(owner, card, names)]

    def _quiet(self, kinds, owner, heard):
        """The least live sets with which an owner with these kinds tells and demands nothing."""
        lives = list({known & heard: True for known in self._families[owner]})
        return _least([live for live in lives if self._views.is_quiet(kinds, live, heard)])

    def live_sets(self, policy, unit):
        """A dict from the owners to their live sets in a gap with this heard set; None if there is no such gap."""
        heard = self._views.bits_of(unit)
        # The common cells of some live sets, and these live sets: fewer cells in common are always better.
        common = {heard: ()}
        for owner in self.owners:
            lives = self._quiet(policy.kinds(owner), owner, heard)
            found = {}
            for bits in common:
                for live in lives:
                    found.setdefault(bits & live, (*common[bits], live))
            common = {bits: found[bits] for bits in _least(list(found))}
        if 0 not in common:
            return None
        return {owner: self._views.cells_of_bits(live) for owner, live in zip(self.owners, common[0])}

    def first_gap(self, policy):
        """The first gap of a policy; None if the policy is complete."""
        for unit in self.units:
            live = self.live_sets(policy, unit)
            if live is not None:
                return unit, live
        return None


def gaps(policy, names, theories):
    """Generates a pair of the heard set and a dict of the live sets for each unit set that is heard in a gap."""
    judge = Judge(names, theories)
    for unit in judge.units:
        live = judge.live_sets(policy, unit)
        if live is not None:
            yield unit, live


def gap(policy, names, theories):
    """The first gap; None if there is none."""
    return Judge(names, theories).first_gap(policy)


def is_complete(policy, names, theories):
    """True if the policy is complete for the names and theories."""
    return gap(policy, names, theories) is None


def _known_by(owner, card, names, heard, live):
    """Own literals of a theory with which its live set is the one of a gap."""
    for cells, literals in family(owner, card, names):
        if cells & heard == live:
            return literals
    return ()


def _common_cells(names, theories, literals):
    """The cells that the literals of all owners, and the shared ones, fit."""
    common = Cells.where(names, [literal for literal in literals if owner_of(literal) == ""])
    for owner in theories:
        own = [literal for literal in literals if owner_of(literal) == owner]
        common = cells_of(theories[owner], names, own, among=common)
    return common


def stuck_problem(policy, names, theories):
    """A least stuck problem; None if the policy is complete."""
    found = gap(policy, names, theories)
    if found is None:
        return None
    heard, live = found
    literals = [literal for literal in shared_literals(names) if heard.within(Cells.where(names, [literal]))]
    for owner in live:
        literals.extend(_known_by(owner, theories[owner], names, heard, live[owner]))
    kept = clause_of(literals)
    for literal in clause_of(literals):
        others = tuple([other for other in kept if other != literal])
        if len(_common_cells(names, theories, others)) == 0:
            kept = others
    return Problem(names, theories, dict(enumerate([(literal,) for literal in kept], start=1)))
