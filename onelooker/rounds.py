"""Rounds, in which the owners of a unit problem tell each other shared literals (points 139 to 144, 148, 151, 152)."""

from onelooker.cards import check_literal
from onelooker.deciders import cells_of, least_clash
from onelooker.errors import NoOwner, NotTellable
from onelooker.literals import clause_of, negated, negations, owner_of
from onelooker.telling import Views


class UnitProblem:
    """Names, theories, a policy and given own literals, and what they say of the cells. It does not change."""

    def __init__(self, names, theories, policy, literals):
        self.owners = sorted(list(theories))
        self.views = Views(names)
        self._names = names
        self._cards = {owner: theories[owner] for owner in self.owners}
        self._own = {owner: [literal for literal in literals if owner_of(literal) == owner] for owner in self.owners}
        self._known = {owner: self.views.bits_of(cells_of(self._cards[owner], names, self._own[owner]))
                       for owner in self.owners}
        self._kinds = {owner: policy.kinds(owner) for owner in self.owners}

    def live(self, owner, heard):
        """The live set of an owner, as an integer like the heard set."""
        if owner not in self._known:
            raise NoOwner(owner)
        return self._known[owner] & heard

    def is_refuted(self, heard):
        """True if the heard set or a live set is empty."""
        return heard == 0 or any([self._known[owner] & heard == 0 for owner in self.owners])

    def tellable(self, heard):
        """The pairs (owner, literal) that can be told, ascending."""
        if self.is_refuted(heard):
            return []
        return [(owner, literal) for owner in self.owners
                for literal in self.views.told_in(self._kinds[owner], self._known[owner] & heard, heard)]

    def demanded(self, heard):
        """The first demand that is not empty; () if there is none."""
        for owner in self.owners:
            found = self.views.demanded(self._kinds[owner], self._known[owner] & heard, heard)
            if found != ():
                return found
        return ()

    def reason(self, owner, literal, earlier):
        """The clause that shows why an owner can tell a literal behind earlier heard ones."""
        told = [*self._own[owner], *earlier, negated(literal)]
        return negations(least_clash(self._cards[owner], self._names, told))


class Rounds:
    """Rounds of a unit problem. They change by tell, hear, run and walk."""

    def __init__(self, names, theories, policy, literals):
        self.names = names
        self.heard = ()
        self._policy = policy
        self._unit = UnitProblem(names, theories, policy, literals)
        self._told = ()
        self._places = ()
        self._bits = self._unit.views.all_bits()
        self._add([literal for literal in clause_of(literals) if owner_of(literal) == ""])

    @staticmethod
    def resumed(names, theories, policy, literals, told):
        """New rounds in which these pairs were told in order."""
        rounds = Rounds(names, theories, policy, literals)
        for owner, literal in told:
            rounds.tell(owner, literal)
        return rounds

    @property
    def shared(self):
        """The heard set."""
        return self._shared

    @property
    def told(self):
        """The pairs (owner, literal) that were told in these rounds, in order."""
        return self._told

    @property
    def refuted(self):
        """True if the heard set or a live set is empty."""
        return self._refuted

    def _add(self, literals):
        """Adds shared literals at the end of the heard ones."""
        for literal in literals:
            self._bits = self._unit.views.narrowed(self._bits, literal)
        self.heard = (*self.heard, *literals)
        self._shared = self._unit.views.cells_of_bits(self._bits)
        self._refuted = self._unit.is_refuted(self._bits)

    def live(self, owner):
        """The live set of an owner."""
        return self._unit.views.cells_of_bits(self._unit.live(owner, self._bits))

    def tellable(self):
        """The pairs (owner, literal) that can be told now, ascending."""
        return self._unit.tellable(self._bits)

    def _add_told(self, owner, literal):
        """Tells a literal that can be told."""
        self._told = (*self._told, (owner, literal))
        self._places = (*self._places, len(self.heard))
        self._add([literal])

    def tell(self, owner, literal):
        """Tells a literal."""
        if (owner, literal) not in self.tellable():
            raise NotTellable(owner, literal)
        self._add_told(owner, literal)

    def hear(self, literal):
        """Hears a literal from outside."""
        check_literal(literal, self.names, {})
        if literal not in self.heard:
            self._add([literal])

    def walk(self):
        """Runs the rounds, and generates each pair right after it is told."""
        pairs = self.tellable()
        while len(pairs) > 0:
            owner, literal = pairs[0]
            self._add_told(owner, literal)
            yield (owner, literal)
            pairs = self.tellable()

    def run(self):
        """Tells the least pair that can be told, until nothing can be told."""
        for _ in self.walk():
            pass

    def demand_now(self):
        """The literals of the branches; () if there are none."""
        if self._refuted or len(self.tellable()) > 0:
            return ()
        return self._unit.demanded(self._bits)

    def branch(self, literal):
        """New rounds that have heard the same, and then a literal."""
        rounds = Rounds(self.names, {}, self._policy, ())
        # The unit problem is the same one, so that the theories need not be decided again.
        rounds._unit = self._unit
        rounds._add(list(self.heard))
        rounds.hear(literal)
        return rounds

    def reason(self, index):
        """The clause that shows why a literal could be told."""
        owner, literal = self._told[index]
        return self._unit.reason(owner, literal, self.heard[:self._places[index]])
