"""Easy problems, which are decided by growth alone (points 170 to 174)."""

from onelooker.asrows import turned_forward
from onelooker.cells import Cells
from onelooker.deciders import cells_of, clashes, fits
from onelooker.deciding import Outcome, decide
from onelooker.errors import NotEasy
from onelooker.flipping import horn_flips
from onelooker.literals import negated, owner_of, same
from onelooker.models import Model
from onelooker.names import ENDLESS, marked, meet, pairs
from onelooker.policies import Policy
from onelooker.termsfits import known_with, term_leads
from onelooker.typetables import type_rows


def _atoms_of(problem, owner):
    """The atoms of an owner in the clauses of a problem, ascending."""
    return [atom for atom in problem.atoms() if atom[0] == owner]


def _is_terms(problem, owner):
    """True if the theory of an owner is a terms theory."""
    return problem.card(owner)[0] == "terms"


def _holds_in_row(atom, card, held):
    """True if an own atom holds in a row of the table in which these own atoms hold."""
    if card[0] != "ring":
        return atom in held
    if atom[2] == atom[3]:
        return atom[4] == 0
    return turned_forward(atom, card) in held


def _shapes(problem, owner, flips):
    """The shapes of the rows of the table of a theory: a dict from (size, marks, atoms) to True."""
    card = problem.card(owner)
    atoms = _atoms_of(problem, owner)
    found = {}
    for (size, marks), held in type_rows(owner, card, problem.names):
        positive = [atom for atom in atoms if _holds_in_row(atom, card, held) != (atom in flips)]
        found[(size, marks, tuple(positive))] = True
    return found


def _is_closed(problem, owner, flips):
    """True if the theory of an owner is closed under meets."""
    shapes = _shapes(problem, owner, flips)
    if not all([(ENDLESS, marks, atoms) in shapes for _, marks, atoms in shapes]):
        return False
    endless = [(marks, atoms) for size, marks, atoms in shapes if size == ENDLESS]
    return all([(ENDLESS, meet(low, high), tuple([atom for atom in atoms if atom in others])) in shapes
                for low, atoms in endless for high, others in endless])


def easy_flips(problem):
    """The flips with which a problem is easy; None if it is not."""
    atoms = problem.atoms()
    if any([atom[1] == "size" for atom in atoms]):
        return None
    fixed = [atom for atom in atoms if atom[0] == "" or _is_terms(problem, atom[0])]
    flips = horn_flips([problem[label] for label in problem.labels], fixed)
    if flips is None:
        return None
    closed = [_is_closed(problem, owner, flips) for owner in problem.owners if not _is_terms(problem, owner)]
    return flips if all(closed) else None


class Growth:
    """The growth of an easy problem. It is found when the object is made, as far as it does not clash."""

    def __init__(self, problem, flips):
        self.grown = {}
        self.has_clash = False
        self._problem = problem
        self._positive = {owner: [(atom, atom not in flips) for atom in _atoms_of(problem, owner)]
                          for owner in problem.owners}
        self._sames = [same(low, high) for low, high in pairs(problem.names)]
        news = {literal: True for literal in self._news()}
        while len(news) > 0 and not self.has_clash:
            self.grown.update(news)
            news = {literal: True for literal in self._news()}

    def _grown_of(self, owner):
        """The literals of an owner and the shared ones, as far as they are grown."""
        return [literal for literal in self.grown if owner_of(literal) in ("", owner)]

    def _unit_literals(self):
        """The literals that clauses add; notes a clash if all literals of a clause are denied."""
        found = []
        for label in self._problem.labels:
            left = [literal for literal in self._problem[label] if negated(literal) not in self.grown]
            if len(left) == 0:
                self.has_clash = True
            if len(left) == 1:
                found.append(left[0])
        return found

    def _own_literals(self, owner, cells):
        """The positive literals of an owner that hold at these cells, which the told ones fit, because of those."""
        card, names, told = self._problem.card(owner), self._problem.names, self._grown_of(owner)
        if not _is_terms(self._problem, owner):
            return [literal for literal in self._positive[owner]
                    if clashes(card, names, [*told, negated(literal)], among=cells)]
        known = known_with(names, self._positive[owner])
        own = [literal for literal in told if owner_of(literal) == owner]
        leads = [term_leads(names, own, cell, known) for cell in cells]
        return [(atom, sign) for atom, sign in self._positive[owner]
                if all([lead[atom[2]] == lead[atom[3]] for lead in leads])]

    def _theory_literals(self, owner):
        """The literals that a theory, or none, adds; notes a clash if the told literals fit no cell."""
        card = None if owner == "" else self._problem.card(owner)
        cells = cells_of(card, self._problem.names, self._grown_of(owner))
        if len(cells) == 0:
            self.has_clash = True
            return []
        shared = [literal for literal in self._sames if cells.within(Cells.where(self._problem.names, [literal]))]
        return shared if owner == "" else shared + self._own_literals(owner, cells)

    def _news(self):
        """The literals that the rules add to what is grown."""
        found = self._unit_literals()
        for owner in ["", *self._problem.owners]:
            found.extend(self._theory_literals(owner))
        return [literal for literal in found if literal not in self.grown]

    def least_model_of(self):
        """The least positive model."""
        names = self._problem.names
        # Each name is marked by the first name that is the same.
        firsts = [[first for first in names if first == name or same(first, name) in self.grown][0] for name in names]
        cell = (ENDLESS, marked(firsts))
        parts = {}
        for owner in self._problem.owners:
            literals = [literal if literal in self.grown else negated(literal) for literal in self._positive[owner]]
            parts[owner] = fits(self._problem.card(owner), names, literals, cell)
        return Model(names, self._problem.theories(), cell, parts)


def decide_easy(problem):
    """The outcome of an easy problem."""
    flips = easy_flips(problem)
    if flips is None:
        raise NotEasy()
    growth = Growth(problem, flips)
    if not growth.has_clash:
        return Outcome("model", growth.least_model_of(), None, None)
    return decide(problem, Policy.alike(problem.owners, ("whole",)))
