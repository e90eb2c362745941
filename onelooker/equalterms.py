"""Which terms are the same under equations, and because of which of them (points 31 to 35)."""

from onelooker.cards import is_whole
from onelooker.errors import BadLabel, NoLabel, NothingToUndo, NotSame, TakenLabel
from onelooker.problems import MOST_LABEL
from onelooker.terms import check_term, is_plain, subterms, term_rank


def known_terms(terms):
    """The subterms of the terms, in the order of terms."""
    different = list({part: True for term in terms for part in subterms(term)})
    return sorted(different, key=term_rank)


def _unite(leads, first, second):
    """Puts the classes of two numbers together under the lesser one of their leads."""
    low, high = min(leads[first], leads[second]), max(leads[first], leads[second])
    for at in range(len(leads)):
        if leads[at] == high:
            leads[at] = low


def _unions_by_values(known, places, leads):
    """Unites function values whose arguments are the same; the pairs that were not united before."""
    seen = {}
    found = []
    for at, term in enumerate(known):
        if not is_plain(term):
            other = seen.setdefault((term[0], *[leads[places[part]] for part in term[1:]]), at)
            if leads[other] != leads[at]:
                _unite(leads, other, at)
                found.append((other, at))
    return found


def unions(pairs, known):
    """Unites known terms, given in the order of terms, until those that are the same under the pairs are united.

    Returns the leads and the unions. The lead of a known term is the first term of its class. Each union is a pair of
    terms in the order in which they were united: one of the given pairs, or two function values whose arguments
    the earlier unions make the same.
    """
    places = {term: at for at, term in enumerate(known)}
    leads = list(range(len(known)))
    found = []
    for first, second in pairs:
        if leads[places[first]] != leads[places[second]]:
            _unite(leads, places[first], places[second])
            found.append((first, second))
    more = _unions_by_values(known, places, leads)
    while len(more) > 0:
        found.extend([(known[first], known[second]) for first, second in more])
        more = _unions_by_values(known, places, leads)
    return {term: known[leads[at]] for at, term in enumerate(known)}, found


def closure(pairs, terms):
    """The first term of the class of each known term, where the two terms of each pair are the same."""
    known = known_terms([term for pair in pairs for term in pair] + list(terms))
    leads, _ = unions(pairs, known)
    return leads


def _are_united(equations, known, first, second):
    """True if two known terms are the same under the equations."""
    leads, _ = unions([equation[1:] for equation in equations], known)
    return leads[first] == leads[second]


def reasons_for(equations, first, second):
    """The labels of the reasons for two terms, ascending; None if the terms are not the same."""
    known = known_terms([term for equation in equations for term in equation[1:]] + [first, second])
    kept = list(equations)
    if not _are_united(kept, known, first, second):
        return None
    for visited in reversed(list(equations)):
        others = [equation for equation in kept if equation[0] != visited[0]]
        if _are_united(others, known, first, second):
            kept = others
    return tuple(sorted([equation[0] for equation in kept]))


class EqualTerms:
    """Equations in the order in which they were put. It changes."""

    def __init__(self):
        self._pairs = {}

    @staticmethod
    def of(*equations):
        """An object with these equations, put one after the other."""
        made = EqualTerms()
        for label, first, second in equations:
            made.put(label, first, second)
        return made

    def __len__(self):
        return len(self._pairs)

    def __iter__(self):
        return iter(self._pairs)

    def __contains__(self, x):
        return x in self._pairs

    def __getitem__(self, at):
        if at not in self._pairs:
            raise NoLabel(at)
        return self._pairs[at]

    @property
    def equations(self):
        """The equations in the order of putting."""
        return tuple([(label, first, second) for label, (first, second) in self._pairs.items()])

    def put(self, label, first, second):
        """Puts an equation behind the others."""
        if not is_whole(label, 1, MOST_LABEL):
            raise BadLabel(label)
        if label in self._pairs:
            raise TakenLabel(label)
        check_term(first)
        check_term(second)
        self._pairs[label] = (first, second)

    def undo(self):
        """Takes back the equation that was put last, and returns its label."""
        if len(self._pairs) == 0:
            raise NothingToUndo()
        last = list(self._pairs)[-1]
        del self._pairs[last]
        return last

    def drop(self, label):
        """Takes back the equation of a label."""
        if label not in self._pairs:
            raise NoLabel(label)
        del self._pairs[label]

    def same(self, first, second):
        """True if the two terms are the same."""
        leads = self._leads([first, second])
        return leads[first] == leads[second]

    def reasons(self, first, second):
        """The reasons for two terms that are the same, ascending."""
        found = reasons_for(self.equations, first, second)
        if found is None:
            raise NotSame(first, second)
        return found

    def classes(self, *terms):
        """The classes of all known terms, in the order of their first terms."""
        members = {}
        for term, lead in self._leads(terms).items():
            members.setdefault(lead, []).append(term)
        return tuple([tuple(listed) for listed in members.values()])

    def least(self, term):
        """The first term of the class of the term."""
        return self._leads([term])[term]

    def _leads(self, terms):
        """The first term of the class of each term that is known with these terms."""
        return closure(list(self._pairs.values()), terms)
