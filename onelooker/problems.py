"""Problems: names, theories and labeled clauses (point 11)."""

from onelooker.cards import check_card, check_literal, is_whole, renamed_card
from onelooker.errors import (BadClause, BadLabel, BadName, CardMismatch, NamesMismatch, NoLabel, NoOwner,
                              TakenLabel, TooMany)
from onelooker.literals import MOST_LITERALS, clause_of, renamed_literal
from onelooker.names import check_names, is_name
from onelooker.terms import is_plain, subterms

MOST_OWNERS = 3
MOST_LABEL = 999
MOST_CLAUSES = 40
MOST_TERMS = 40


def _check_theories(theories, width):
    """Raises an error unless each owner is a name and has a card for so many names."""
    for owner in theories:
        if not is_name(owner):
            raise BadName(owner)
    if len(theories) > MOST_OWNERS:
        raise TooMany("owners")
    for owner in sorted(list(theories)):
        check_card(theories[owner], width)


def _check_label(label):
    """Raises BadLabel unless the value is a label of a problem."""
    if not is_whole(label, 1, MOST_LABEL):
        raise BadLabel(label)


def _check_labels(clauses):
    """Raises an error if a key is no label, or if there are too many."""
    for label in clauses:
        _check_label(label)
    if len(clauses) > MOST_CLAUSES:
        raise TooMany("clauses")


def stored_clause(value, names, theories):
    """The value as a clause of a problem; raises an error if it cannot be one."""
    if not isinstance(value, tuple) or len(value) == 0:
        raise BadClause(value)
    for literal in value:
        check_literal(literal, names, theories)
    stored = clause_of(value)
    if len(stored) > MOST_LITERALS:
        raise BadClause(value)
    return stored


def _atoms_of(clauses):
    """The atoms in a list or tuple of clauses, as often as they occur."""
    return [atom for literals in clauses for atom, _ in literals]


def _check_terms(clauses):
    """Raises TooMany if the clauses contain too many different compound terms."""
    terms = [term for atom in _atoms_of(clauses) if atom[1] == "equal" for term in atom[2:]]
    if len({part for term in terms for part in subterms(term) if not is_plain(part)}) > MOST_TERMS:
        raise TooMany("terms")


class Problem:
    """Names, a card for each owner, and a clause for each label. It does not change."""

    def __init__(self, names, theories, clauses):
        check_names(names)
        _check_theories(theories, len(names))
        _check_labels(clauses)
        labels = sorted(list(clauses))
        stored = [stored_clause(clauses[label], names, theories) for label in labels]
        _check_terms(stored)
        self.names = names
        self.owners = tuple(sorted(list(theories)))
        self.labels = tuple(labels)
        self._cards = {owner: theories[owner] for owner in self.owners}
        self._clauses = dict(zip(labels, stored))

    @staticmethod
    def of(names, *clauses, **theories):
        """The problem whose clauses have the labels 1, 2, 3 and so on."""
        return Problem(names, theories, dict(enumerate(clauses, start=1)))

    def __eq__(self, other):
        return (isinstance(other, Problem) and self.names == other.names and self._cards == other._cards
                and self._clauses == other._clauses)

    def __len__(self):
        return len(self.labels)

    def __iter__(self):
        return iter(self.labels)

    def __contains__(self, x):
        return x in self.labels

    def __getitem__(self, at):
        if at not in self._clauses:
            raise NoLabel(at)
        return self._clauses[at]

    def __add__(self, other):
        if self.names != other.names:
            raise NamesMismatch()
        for owner in other.owners:
            if owner in self._cards and self._cards[owner] != other._cards[owner]:
                raise CardMismatch(owner)
        for label in other.labels:
            if label in self._clauses:
                raise TakenLabel(label)
        return Problem(self.names, {**self._cards, **other._cards}, {**self._clauses, **other._clauses})

    def card(self, owner):
        """The card of an owner."""
        if owner not in self._cards:
            raise NoOwner(owner)
        return self._cards[owner]

    def theories(self):
        """The cards by owner, owners ascending."""
        return {owner: self._cards[owner] for owner in self.owners}

    def clauses(self):
        """The clauses by label, labels ascending."""
        return {label: self._clauses[label] for label in self.labels}

    def put(self, label, clause):
        """The problem with one more clause."""
        _check_label(label)
        if label in self._clauses:
            raise TakenLabel(label)
        return Problem(self.names, self._cards, {**self._clauses, label: clause})

    def drop(self, label):
        """The problem without a clause."""
        if label not in self._clauses:
            raise NoLabel(label)
        return self.only([kept for kept in self.labels if kept != label])

    def only(self, labels):
        """The problem with the clauses of these labels."""
        return Problem(self.names, self._cards, {label: self[label] for label in labels})

    def renamed(self, mapping):
        """The problem with its names replaced; the constructor checks the new names."""
        names = tuple(sorted([mapping.get(name, name) for name in self.names]))
        cards = {owner: renamed_card(self._cards[owner], self.names, mapping) for owner in self.owners}
        clauses = {label: tuple([renamed_literal(literal, mapping) for literal in self._clauses[label]])
                   for label in self.labels}
        return Problem(names, cards, clauses)

    def atoms(self):
        """The different atoms in the clauses, ascending."""
        clauses = [self._clauses[label] for label in self.labels]
        return tuple(sorted(set(_atoms_of(clauses))))
