"""Policies with fewer pairs, or with more, that are complete (point 138)."""

from onelooker.errors import NotComplete
from onelooker.judging import Judge
from onelooker.policies import Policy


def reduced(policy, names, theories):
    """The complete policy without the pairs that can be left out one after the other."""
    judge = Judge(names, theories)
    if judge.first_gap(policy) is not None:
        raise NotComplete()
    for owner, kind in reversed(list(policy.rows)):
        if kind != "same" or (owner, "some") not in policy:
            fewer = policy.without(owner, kind)
            if judge.first_gap(fewer) is None:
                policy = fewer
    return policy


def extended(policy, names, theories):
    """The policy with more pairs, added one by one until it is complete."""
    judge = Judge(names, theories)
    for kind in Policy.KINDS:
        for owner in judge.owners:
            if judge.first_gap(policy) is None:
                return policy
            policy = policy.with_kind(owner, kind)
    return policy
