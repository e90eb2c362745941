"""Policies: which kinds of shared literals each owner tells (points 121 and 122)."""

from onelooker.errors import BadName, BadPolicy
from onelooker.names import is_name


def _check_kinds(owner, kinds):
    """Raises an error unless an owner may have these kinds."""
    if not is_name(owner):
        raise BadName(owner)
    for kind in kinds:
        if kind not in Policy.KINDS:
            raise BadPolicy(owner, kind)
    if "some" in kinds and "same" not in kinds:
        raise BadPolicy(owner, "some")


def _told_by(rows):
    """The kinds by owner in a list or tuple of pairs (owner, kind)."""
    told = {}
    for owner, kind in rows:
        told[owner] = (*told.get(owner, ()), kind)
    return told


class Policy:
    """A set of pairs of an owner and a kind. It does not change."""

    KINDS = ("other", "same", "size", "some", "whole")

    def __init__(self, **told):
        for owner in sorted(list(told)):
            _check_kinds(owner, told[owner])
        self.rows = tuple(sorted({(owner, kind) for owner in told for kind in told[owner]}))

    @staticmethod
    def alike(owners, kinds):
        """The policy that gives each of the owners the same kinds."""
        told = {owner: kinds for owner in owners}
        return Policy(**told)

    def __eq__(self, other):
        return isinstance(other, Policy) and self.rows == other.rows

    def __len__(self):
        return len(self.rows)

    def __iter__(self):
        return iter(self.rows)

    def __contains__(self, x):
        return x in self.rows

    def __or__(self, other):
        told = _told_by([*self.rows, *other.rows])
        return Policy(**told)

    def __and__(self, other):
        told = _told_by([row for row in self.rows if row in other.rows])
        return Policy(**told)

    def kinds(self, owner):
        """The kinds of an owner, ascending."""
        return tuple([kind for other, kind in self.rows if other == owner])

    def with_kind(self, owner, kind):
        """The policy with one more pair."""
        told = _told_by([*self.rows, (owner, kind)])
        return Policy(**told)

    def without(self, owner, kind):
        """The policy without a pair."""
        told = _told_by([row for row in self.rows if row != (owner, kind)])
        return Policy(**told)

    def covers(self, other):
        """True if every pair of the other policy is in this one."""
        return all([row in self.rows for row in other.rows])
