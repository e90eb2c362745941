"""Models: a cell and an own part for each theory (points 91 and 92)."""

from onelooker.cards import check_literal
from onelooker.deciders import true_in
from onelooker.errors import NoOwner
from onelooker.literals import holds_at, owner_of


class Model:
    """Names, a cell over them, and a card and an own part for each owner. It does not change."""

    def __init__(self, names, theories, cell, own):
        self.names = names
        self.cell = cell
        self.owners = tuple(sorted(list(theories)))
        self._cards = {owner: theories[owner] for owner in self.owners}
        self._parts = {owner: own[owner] for owner in self.owners}

    def __eq__(self, other):
        return (isinstance(other, Model) and self.names == other.names and self.cell == other.cell
                and self._cards == other._cards and self._parts == other._parts)

    def __call__(self, literal):
        return self.holds(literal)

    def card(self, owner):
        """The card of an owner."""
        if owner not in self._cards:
            raise NoOwner(owner)
        return self._cards[owner]

    def own_part(self, owner):
        """The own part of an owner."""
        if owner not in self._parts:
            raise NoOwner(owner)
        return self._parts[owner]

    def theories(self):
        """The cards by owner, owners ascending."""
        return {owner: self._cards[owner] for owner in self.owners}

    def holds(self, literal):
        """True if the literal holds."""
        check_literal(literal, self.names, self._cards)
        owner = owner_of(literal)
        if owner == "":
            return holds_at(self.names, literal, self.cell)
        return true_in(self._cards[owner], self.names, self.cell, self._parts[owner], literal)

    def meets(self, clause):
        """True if the clause holds."""
        # Every literal is asked about, because a wrong one is told even behind one that holds.
        truths = [self.holds(literal) for literal in clause]
        return any(truths)

    def satisfies(self, problem):
        """True if the model has what the problem has, and all clauses of the problem hold."""
        if self.names != problem.names:
            return False
        for owner in problem.owners:
            if owner not in self._cards or self._cards[owner] != problem.card(owner):
                return False
        return all([self.meets(problem[label]) for label in problem.labels])
