"""Chains of steps that show why two terms are the same (points 36 to 38)."""

from onelooker.cards import is_whole
from onelooker.equalterms import known_terms, reasons_for, unions
from onelooker.errors import BadStep, NotSame
from onelooker.names import is_int
from onelooker.terms import is_term


def _turn(proved, left, right):
    """Proves (right, left) from (left, right)."""
    proved.setdefault((right, left), (("turn",), ((left, right),)))


def _join(proved, left, middle, right):
    """Proves (left, right) from (left, middle) and (middle, right)."""
    proved.setdefault((left, right), (("join",), ((left, middle), (middle, right))))


def _prove_by_leads(proved, leads, left, right):
    """Proves that two terms with the same lead are the same."""
    _turn(proved, right, leads[right])
    _join(proved, left, leads[left], right)


def _prove_by_arguments(proved, leads, left, right):
    """Proves that two function values are the same because their arguments are."""
    arguments = list(zip(left[1:], right[1:]))
    for low, high in arguments:
        _prove_by_leads(proved, leads, low, high)
    proved.setdefault((left, right), (("apply", left[0]), tuple(arguments)))


def _unite(proved, leads, left, right):
    """Puts the classes of a proved pair together; each term is proved to be the same as its new lead."""
    old, new = leads[left], leads[right]
    _turn(proved, left, old)
    _join(proved, old, left, right)
    _join(proved, old, right, new)
    members = [member for member, lead in leads.items() if lead == old]
    for term in members:
        _join(proved, term, old, new)
        leads[term] = new


def _proofs(equations, first, second):
    """A dict from concluded pairs, the pair of the two terms among them, to how each follows from earlier ones.

    The value of a pair has the first items of its step, and the pairs that the step refers to.
    """
    pairs = [equation[1:] for equation in equations]
    known = known_terms([term for pair in pairs for term in pair] + [first, second])
    proved = {(term, term): (("still", term), ()) for term in known}
    for label, left, right in equations:
        proved.setdefault((left, right), (("given", label), ()))
    leads = {term: term for term in known}
    _, united = unions(pairs, known)
    for left, right in united:
        if (left, right) not in proved:
            _prove_by_arguments(proved, leads, left, right)
        _unite(proved, leads, left, right)
    _prove_by_leads(proved, leads, first, second)
    return proved


def _needed(proved, goal):
    """The pairs on which a pair rests, itself included, in the order in which they were proved."""
    needed = {goal: True}
    for pair in reversed(list(proved)):
        if pair in needed:
            for used in proved[pair][1]:
                needed[used] = True
    return [pair for pair in proved if pair in needed]


def chain(equations, first, second):
    """A chain that concludes (first, second) from its reasons alone."""
    labels = reasons_for(equations, first, second)
    if labels is None:
        raise NotSame(first, second)
    # No fewer equations than the reasons will do, so every one of them is given in the chain.
    proved = _proofs([equation for equation in equations if equation[0] in labels], first, second)
    needed = _needed(proved, (first, second))
    numbers = {pair: number for number, pair in enumerate(needed)}
    return tuple([(*proved[pair][0], *[numbers[used] for used in proved[pair][1]]) for pair in needed])


def _has_numbers(step, start, found):
    """True if all items of a step from an index on are numbers of earlier steps."""
    return all([is_whole(number, 0, len(found) - 1) for number in step[start:]])


def _applied(step, found):
    """The pair that an apply step concludes from the pairs of its earlier steps; None if it concludes none."""
    if len(step) not in (3, 4) or not _has_numbers(step, 2, found):
        return None
    used = [found[number] for number in step[2:]]
    return (step[1], *[left for left, _ in used]), (step[1], *[right for _, right in used])


def _joined(step, found):
    """The pair that a turn or join step concludes from the pairs of its earlier steps; None if it concludes none."""
    if not _has_numbers(step, 1, found):
        return None
    used = [found[number] for number in step[1:]]
    if step[0] == "turn" and len(used) == 1:
        return used[0][1], used[0][0]
    if step[0] == "join" and len(used) == 2 and used[0][1] == used[1][0]:
        return used[0][0], used[1][1]
    return None


def _concluded(step, sources, found):
    """The two values that a step concludes, be they terms or not; None if it concludes none."""
    if not isinstance(step, tuple) or len(step) == 0:
        return None
    if step[0] == "given":
        return sources[step[1]] if len(step) == 2 and is_int(step[1]) and step[1] in sources else None
    if step[0] == "still":
        return (step[1], step[1]) if len(step) == 2 else None
    return _applied(step, found) if step[0] == "apply" else _joined(step, found)


def conclusions(equations, steps):
    """The pairs that the steps conclude."""
    sources = {label: (first, second) for label, first, second in equations}
    found = []
    for index, step in enumerate(steps):
        pair = _concluded(step, sources, found)
        # Terms are within the greatest depth, and their functions are names.
        if pair is None or not is_term(pair[0]) or not is_term(pair[1]):
            raise BadStep(index)
        found.append(pair)
    return found


def read_chain(equations, steps):
    """The pair that the last step concludes."""
    found = conclusions(equations, steps)
    if len(found) == 0:
        raise BadStep(0)
    return found[-1]
