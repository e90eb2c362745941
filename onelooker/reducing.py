"""Policies with fewer pairs, or with more, that are complete (point 138)."""

from onelooker.errors import NotComplete
from onelooker.judging import Judge
from onelooker.policies import Policy


def reduced(policy, names, theories):
    """The complete policy without the pairs that can be left out one after the other."""
    judge = Judge(names, theories)
    if judge.first_gap(policy) is not None:
        raise NotComplete()
    left = policy
    for owner, kind in reversed(list(policy.rows)):
        # An owner that keeps "some" must keep "same" as well.
        if kind != "same" or (owner, "some") not in left:
            fewer = left.without(owner, kind)
            if judge.first_gap(fewer) is None:
                left = fewer
    return left


def extended(policy, names, theories):
    """The policy with more pairs, added one by one until it is complete."""
    judge = Judge(names, theories)
    found = policy
    for kind in Policy.KINDS:
        for owner in judge.owners:
            if judge.first_gap(found) is None:
                return found
            found = found.with_kind(owner, kind)
    return found
