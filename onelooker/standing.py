"""Where problems stand: fitting picks, and the models made from them (points 13, 93 and 94)."""

from onelooker.cells import Cells
from onelooker.deciders import all_parts, fits, true_in
from onelooker.literals import holds_at, negated, owner_of
from onelooker.models import Model
from onelooker.names import cells_over
from onelooker.terms import is_plain
from onelooker.termsfits import known_with, term_leads


class PartsLeft:
    """What literals leave of a theory with a table at a cell: an integer with a bit for each own part that is left."""

    def __init__(self, card, names, cell):
        self._card = card
        self._names = names
        self._cell = cell
        self._parts = all_parts(card, names, (), cell)
        self._holding = {}

    def start(self):
        """What is left without literals."""
        return (1 << len(self._parts)) - 1

    def is_possible(self, left):
        """True if the literals that led here fit the cell."""
        return left != 0

    def after(self, left, literal):
        """What one more literal leaves; the same if it holds anyway, None if it does not fit."""
        if literal not in self._holding:
            self._holding[literal] = sum([1 << at for at, own in enumerate(self._parts)
                                          if true_in(self._card, self._names, self._cell, own, literal)])
        narrowed = left & self._holding[literal]
        return narrowed if narrowed != 0 else None


class TermsLeft:
    """What literals leave of a terms theory at a cell: the ascending numbers of those that told something new."""

    def __init__(self, names, cell, literals):
        self._names = names
        self._cell = cell
        self._literals = literals
        self._numbers = {literal: number for number, literal in enumerate(literals)}
        self._known = known_with(names, literals)
        self._facts = {}

    def start(self):
        """What is left without literals."""
        return ()

    def is_possible(self, left):
        """True if the literals that led here fit the cell."""
        leads, _ = self._facts_of(left)
        return leads is not None

    def after(self, left, literal):
        """What one more literal leaves; the same if it holds anyway, None if it is seen that it does not fit.

        What is left must be possible. What it leaves may not be, because that takes longer to find out.
        """
        (_, _, first, second), sign = literal
        leads, denied = self._facts_of(left)
        low, high = leads[first], leads[second]
        if low == high:
            return left if sign else None
        if (is_plain(low) and is_plain(high)) or (low, high) in denied or (high, low) in denied:
            return None if sign else left
        return tuple(sorted([*left, self._numbers[literal]]))

    def _facts_of(self, left):
        """The first term to which each term must be equal, or None, and a dict of the pairs of first terms denied."""
        if left not in self._facts:
            told = [self._literals[number] for number in left]
            leads = term_leads(self._names, told, self._cell, self._known)
            apart = [] if leads is None else [atom for atom, sign in told if not sign]
            self._facts[left] = (leads, {(leads[atom[2]], leads[atom[3]]): True for atom in apart})
        return self._facts[left]


class Search:
    """The search for fitting picks of a problem at a cell.

    Its states are tuples that tell, for each owner of the problem, what the literals taken so far leave of the theory.
    """

    def __init__(self, problem, cell):
        self.listed = [problem[label] for label in problem.labels]
        self._names = problem.names
        self._cell = cell
        self._owners = problem.owners
        self._theories = [self._theory(problem, owner) for owner in problem.owners]
        shared = [literal for clause in self.listed for literal in clause if owner_of(literal) == ""]
        self._true = {literal: True for literal in shared if holds_at(problem.names, literal, cell)}
        self._standing = {}

    def _theory(self, problem, owner):
        """What decides the literals of an owner."""
        card = problem.card(owner)
        if card[0] != "terms":
            return PartsLeft(card, self._names, self._cell)
        atoms = [atom for atom in problem.atoms() if atom[0] == owner]
        return TermsLeft(self._names, self._cell, [(atom, sign) for atom in atoms for sign in (False, True)])

    def start(self):
        """The state without literals."""
        return tuple([theory.start() for theory in self._theories])

    def after(self, state, literal):
        """The state after one more literal; the same if it holds anyway, None if it is seen that it does not fit."""
        owner = owner_of(literal)
        if owner == "":
            return state if literal in self._true else None
        at = self._owners.index(owner)
        left = self._theories[at].after(state[at], literal)
        return None if left is None else (*state[:at], left, *state[at + 1:])

    def _is_possible(self, state):
        """True if, for each owner, its literals among those that led to the state fit the cell."""
        return all([theory.is_possible(left) for theory, left in zip(self._theories, state)])

    def leads_on(self, state):
        """True if the literals that led to the state belong to some fitting pick."""
        if state not in self._standing:
            self._standing[state] = self._is_possible(state) and self._can_go_on(state)
        return self._standing[state]

    def _can_go_on(self, state):
        """True if a state that is possible allows a literal of each clause, all of them together."""
        choices = self._fewest_choices(state)
        if choices is None:
            return True
        for literal in choices:
            following = self.after(state, literal)
            if following is not None and self.leads_on(following):
                return True
            # From here on the literal may be denied, because nothing is left where it holds.
            state = self.after(state, negated(literal))
            if state is None or not self._is_possible(state):
                return False
        return False

    def _fewest_choices(self, state):
        """The literals of a clause that it allows, of one that has the fewest; None if every clause holds anyway."""
        fewest = None
        for clause in self.listed:
            states = [self.after(state, literal) for literal in clause]
            if state not in states:
                choices = [literal for literal, following in zip(clause, states) if following is not None]
                if fewest is None or len(choices) < len(fewest):
                    fewest = choices
        return fewest


def _rests_of_picks(search, state, clauses):
    """Generates, ascending, the literals of the last clauses in the fitting picks whose first ones led to a state."""
    if len(clauses) == 0:
        yield ()
        return
    later = clauses[1:]
    for literal in clauses[0]:
        following = search.after(state, literal)
        if following is not None and search.leads_on(following):
            for rest in _rests_of_picks(search, following, later):
                yield (literal, *rest)


def fitting_picks(problem, cell):
    """Generates the picks of a problem that fit the cell, ascending."""
    search = Search(problem, cell)
    start, clauses = search.start(), search.listed
    if search.leads_on(start):
        yield from _rests_of_picks(search, start, clauses)


def _stands_at(problem, cell):
    """True if some pick of the problem fits the cell."""
    search = Search(problem, cell)
    return search.leads_on(search.start())


def standing(problem):
    """The cells at which the problem stands."""
    width = len(problem.names)
    return Cells(width, [cell for cell in cells_over(width) if _stands_at(problem, cell)])


def has_model(problem):
    """True if the problem stands at some cell."""
    for cell in cells_over(len(problem.names)):
        if _stands_at(problem, cell):
            return True
    return False


def _model_of(problem, cell, pick):
    """The model that is made from a pick that fits the cell."""
    parts = {}
    for owner in problem.owners:
        own = [literal for literal in pick if owner_of(literal) == owner]
        parts[owner] = fits(problem.card(owner), problem.names, own, cell)
    return Model(problem.names, problem.theories(), cell, parts)


def stands_at(problem, cell):
    """The model of the problem at the cell; None if the problem does not stand there."""
    for pick in fitting_picks(problem, cell):
        return _model_of(problem, cell, pick)
    return None


def models(problem):
    """Generates the models of the problem at all cells at which it stands, by cells ascending."""
    for cell in cells_over(len(problem.names)):
        model = stands_at(problem, cell)
        if model is not None:
            yield model


def least_model(problem):
    """The least model of the problem; None if it does not stand."""
    for model in models(problem):
        return model
    return None
