"""Deciding problems under a policy (points 153 to 155)."""

from onelooker.cells import Cells
from onelooker.deciders import all_parts, true_in
from onelooker.errors import BadOrder
from onelooker.families import unit_sets
from onelooker.literals import clause_of, negated, owner_of
from onelooker.names import cells_over, is_int
from onelooker.settling import Proof, add_denial
from onelooker.standing import least_model
from onelooker.telling import Views
from onelooker.termsfits import known_with, term_leads


class Outcome:
    """What a problem is found to be, with what shows it; the other attributes are None."""

    def __init__(self, verdict, model, certificate, pick):
        self.verdict = verdict
        self.model = model
        self.certificate = certificate
        self.pick = pick


def _members(bits):
    """The members, ascending, of a set of numbers that is written as an integer with a bit for each of them."""
    return [number for number in range(bits.bit_length()) if (bits >> number) & 1 == 1]


def _bits_of(numbers):
    """The integer for a list of different numbers."""
    return sum([1 << number for number in numbers])


class Points:
    """The unit sets over some names, numbered, as heard sets of stuck points.

    An owner allows a heard set if it has a live set there, with which it tells and demands nothing.
    """

    def __init__(self, names):
        self._views = Views(names)
        self._heard = [self._views.bits_of(unit) for unit in unit_sets(names)]
        self._found = {}

    def allowed(self, kinds, known):
        """The heard sets that an owner with these kinds and this known set allows."""
        key = (kinds, known.rows)
        if key not in self._found:
            bits = self._views.bits_of(known)
            self._found[key] = _bits_of([at for at, heard in enumerate(self._heard)
                                         if self._views.is_quiet(kinds, bits & heard, heard)])
        return self._found[key]

    def within(self, cells):
        """The heard sets within a set of cells."""
        bits = self._views.bits_of(cells)
        return _bits_of([at for at, heard in enumerate(self._heard) if heard & bits == heard])


class TableKnown:
    """The known sets of a theory with a table, found from the own parts that literals leave."""

    def __init__(self, card, names):
        self._card = card
        self._names = names
        self._parts = [(cell, own) for cell in cells_over(len(names)) for own in all_parts(card, names, (), cell)]
        self._holding = {}

    def _holding_parts(self, literal):
        """The numbers of the own parts in which a literal holds, as an integer."""
        if literal not in self._holding:
            self._holding[literal] = _bits_of([at for at, (cell, own) in enumerate(self._parts)
                                               if true_in(self._card, self._names, cell, own, literal)])
        return self._holding[literal]

    def known(self, literals):
        """The cells that own literals fit."""
        left = (1 << len(self._parts)) - 1
        for literal in literals:
            left = left & self._holding_parts(literal)
        return Cells(len(self._names), [self._parts[at][0] for at in _members(left)])


class TermsKnown:
    """The known sets of a terms theory, for literals that are among some given ones."""

    def __init__(self, names, literals):
        self._names = names
        # The terms are collected once, because the order of terms takes longer to find than what is the same.
        self._known = known_with(names, literals)

    def known(self, literals):
        """The cells that own literals fit."""
        width = len(self._names)
        return Cells(width, [cell for cell in cells_over(width)
                             if term_leads(self._names, literals, cell, self._known) is not None])


class Listener:
    """What the chosen ones of some numbered literals, all shared or all of one owner, allow as heard sets."""

    def __init__(self, points, names, card, kinds, numbered):
        self._points = points
        self._names = names
        self._deciding = None
        if card is not None:
            terms = card[0] == "terms"
            self._deciding = TermsKnown(names, list(numbered.values())) if terms else TableKnown(card, names)
        self._kinds = kinds
        self._numbered = numbered
        self._own = _bits_of(list(numbered))
        self._found = {}

    def _find(self, literals):
        """The heard sets that these literals allow."""
        if self._deciding is None:
            return self._points.within(Cells.where(self._names, literals))
        return self._points.allowed(self._kinds, self._deciding.known(literals))

    def allowed_by(self, chosen):
        """The heard sets that those of the chosen numbers allow that are numbers of these literals."""
        own = chosen & self._own
        if own not in self._found:
            self._found[own] = self._find([self._numbered[number] for number in _members(own)])
        return self._found[own]


class PickSearch:
    """The search for a pick of a problem that stands under a policy.

    Sets of literals are integers with a bit for the number of each. A nogood is a set of literals that no pick that
    stands contains. It has a reason: a label with, for each literal of its clause, the literal's number and an earlier
    nogood that forbids it, or the label 0 if the literals alone do not stand.
    """

    def __init__(self, problem, policy, order):
        self.found = 0
        self._problem = problem
        self._literals = clause_of([literal for label in order for literal in problem[label]])
        numbers = {literal: number for number, literal in enumerate(self._literals)}
        self._clauses = [(label, [numbers[literal] for literal in problem[label]]) for label in order]
        points = Points(problem.names)
        self._listeners = [self._listener(points, owner, policy) for owner in ["", *problem.owners]]
        self._nogoods = []
        self._about = [[] for _ in self._literals]

    def _listener(self, points, owner, policy):
        """What the literals of an owner, or the shared ones, allow."""
        numbered = {number: literal for number, literal in enumerate(self._literals) if owner_of(literal) == owner}
        card = None if owner == "" else self._problem.card(owner)
        return Listener(points, self._problem.names, card, policy.kinds(owner), numbered)

    def _stands(self, chosen):
        """True if the chosen literals by themselves are those of a pick that stands.

        If they do not stand, no more literals stand either, although more of them may allow other heard sets.
        """
        allowed = -1
        for listener in self._listeners:
            allowed = allowed & listener.allowed_by(chosen)
        return allowed != 0

    def _learned(self, nogood, label, parts):
        """The number of a new nogood with this reason."""
        self._nogoods.append((nogood, label, parts))
        for number in _members(nogood):
            self._about[number].append(len(self._nogoods) - 1)
        return len(self._nogoods) - 1

    def _forbidding(self, chosen, number):
        """The number of a known nogood that forbids one more literal beside the chosen ones; None if there is none."""
        both = chosen | (1 << number)
        for at in self._about[number]:
            if self._nogoods[at][0] & both == self._nogoods[at][0]:
                return at
        return None

    def _least_part(self, chosen):
        """A part of literals that do not stand, which does not stand either, but does without any one of them."""
        kept = _members(chosen)
        size = len(kept)
        while size > 0:
            at = 0
            while at < len(kept):
                others = kept[:at] + kept[at + size:]
                if self._stands(_bits_of(others)):
                    at += size
                else:
                    kept = others
            size = size // 2
        return _bits_of(kept)

    def _is_open(self, chosen, number):
        """True if it is not seen that one more literal cannot be chosen beside the chosen ones."""
        return self._forbidding(chosen, number) is None and self._stands(chosen | (1 << number))

    def _narrowest(self, chosen):
        """A label and the literals of its clause, of one with the fewest open ones; None if each has a chosen one."""
        narrowest, fewest = None, 0
        for label, numbers in self._clauses:
            if _bits_of(numbers) & chosen == 0:
                many = len([number for number in numbers if self._is_open(chosen, number)])
                if narrowest is None or many < fewest:
                    narrowest, fewest = (label, numbers), many
        return narrowest

    def _refuting(self, chosen, number):
        """The number of a nogood among the chosen literals and one more; None if they are in a pick that is found."""
        known = self._forbidding(chosen, number)
        if known is not None:
            return known
        both = chosen | (1 << number)
        if not self._stands(both):
            return self._learned(self._least_part(both), 0, ())
        return self._search_from(both)

    def _search_from(self, chosen):
        """The number of a nogood among the chosen literals, which stand; None if they are in a pick that is found."""
        narrowest = self._narrowest(chosen)
        if narrowest is None:
            self.found = chosen
            return None
        label, numbers = narrowest
        nogood, parts = 0, []
        for number in numbers:
            part = self._refuting(chosen, number)
            if part is None:
                return None
            bits = self._nogoods[part][0]
            if (bits >> number) & 1 == 0:
                return part
            nogood = nogood | (bits - (1 << number))
            parts.append((number, part))
        return self._learned(nogood, label, parts)

    def refuted_at(self):
        """The number of the empty nogood; None if a pick that stands is found."""
        return self._search_from(0) if self._stands(0) else self._learned(0, 0, ())

    def found_pick(self):
        """The pick that was found, as a tuple."""
        chosen = {self._literals[number]: True for number in _members(self.found)}
        clauses = [self._problem[label] for label in self._problem.labels]
        return tuple([[literal for literal in clause if literal in chosen][0] for clause in clauses])

    def _needed(self, last):
        """The numbers of the nogoods on which one of them rests, ascending; its own comes last."""
        needed = {last: True}
        for at in range(last, -1, -1):
            if at in needed:
                needed.update({part: True for _, part in self._nogoods[at][2]})
        return sorted(list(needed))

    def _add_nogood(self, proof, at, places):
        """The index of a row whose clause denies literals of a nogood; the places are those of earlier nogoods."""
        nogood, label, parts = self._nogoods[at]
        if label == 0:
            literals = [self._literals[number] for number in _members(nogood)]
            return add_denial(proof, self._problem.names, self._problem.theories(), literals)
        row = proof.add_given(label, self._problem[label])
        for choice, part in parts:
            literal = self._literals[choice]
            if negated(literal) not in proof.proved[places[part]]:
                return places[part]
            row = proof.add_resolved(row, places[part], literal)
        return row

    def certificate_against(self, last):
        """The certificate that ends in the clause of a nogood; that of the empty nogood is the empty clause."""
        proof = Proof()
        places = {}
        for at in self._needed(last):
            places[at] = self._add_nogood(proof, at, places)
        return proof.certificate_to(places[last])


def _checked_order(problem, order):
    """The labels in the order in which they are searched; raises BadOrder unless it has each label once."""
    if order is None:
        return problem.labels
    # The integers are checked first, because True equals 1 and other values cannot be sorted beside labels.
    if not all([is_int(label) for label in order]) or tuple(sorted(list(order))) != problem.labels:
        raise BadOrder(order)
    return tuple(order)


def decide(problem, policy, *, order=None):
    """The outcome of a problem under a policy."""
    labels = _checked_order(problem, order)
    model = least_model(problem)
    if model is not None:
        return Outcome("model", model, None, None)
    search = PickSearch(problem, policy, labels)
    last = search.refuted_at()
    if last is None:
        return Outcome("open", None, None, search.found_pick())
    return Outcome("certificate", None, search.certificate_against(last), None)
