"""Unit propagation, and rows that show a clash (points 45 to 52)."""

from onelooker.errors import BadLiteral, BadOrder, BadStep, Stands
from onelooker.literals import negated
from onelooker.names import is_int


def _undenied(clause, held):
    """The literals of the clause whose negations are not held."""
    return [literal for literal in clause if negated(literal) not in held]


def _next_step(clauses, order, held):
    """The step (literal, label) of the first clause that is denied or a unit clause; None if there is none.

    The literal is None if the clause is denied.
    """
    for label in order:
        left = _undenied(clauses[label], held)
        if len(left) == 0:
            return None, label
        if len(left) == 1 and left[0] not in held:
            return left[0], label
    return None


def _is_right_step(clauses, literal, label, held):
    """True if a step can follow the steps of the held literals, whose labels are the values of a dict."""
    if literal in held or not is_int(label):
        return False
    if label == 0:
        return all([earlier == 0 for earlier in held.values()])
    return label in clauses and _undenied(clauses[label], held) == [literal]


class Propagation:
    """The held literals of a propagation, each with the label of the clause that added it."""

    def __init__(self, steps, clash):
        self.steps = steps
        self.clash = clash
        self.literals = tuple([literal for literal, _ in steps])
        self._labels = dict(steps)

    @staticmethod
    def replayed(clauses, steps):
        """The Propagation with these steps."""
        held = {}
        for index, (literal, label) in enumerate(steps):
            if not _is_right_step(clauses, literal, label, held):
                raise BadStep(index)
            held[literal] = label
        denied = [label for label in clauses if len(_undenied(clauses[label], held)) == 0]
        return Propagation(tuple(list(held.items())), min(denied, default=0))

    def __len__(self):
        return len(self.steps)

    def __iter__(self):
        return iter(self.literals)

    def __contains__(self, x):
        return x in self._labels

    def __getitem__(self, at):
        if at not in self._labels:
            raise BadLiteral(at)
        return self._labels[at]


def _checked_order(clauses, order):
    """The labels in the order in which the clauses are taken; raises BadOrder unless it has each label once."""
    labels = sorted(list(clauses))
    if order is None:
        return labels
    # The integers are checked first, because True equals 1 and other values cannot be sorted beside labels.
    if not all([is_int(label) for label in order]) or sorted(list(order)) != labels:
        raise BadOrder(order)
    return list(order)


def propagate(clauses, start=(), *, order=None):
    """The unit propagation of labeled clauses from start literals."""
    labels = _checked_order(clauses, order)
    held = {literal: 0 for literal in start}
    step = _next_step(clauses, labels, held)
    while step is not None and step[0] is not None:
        held[step[0]] = step[1]
        step = _next_step(clauses, labels, held)
    return Propagation(tuple(list(held.items())), 0 if step is None else step[1])


def _resolve_row(literal, by, against):
    """The row that resolves a row with a literal, by its index, against a row with the negation of the literal."""
    atom, sign = literal
    return ("resolve", by, against, atom) if sign else ("resolve", against, by, atom)


def clash_rows(clauses, propagated):
    """Rows that end in a clause of negations of start literals alone."""
    if propagated.clash == 0:
        raise Stands()
    rows = [("given", propagated.clash)]
    left = {literal: True for literal in clauses[propagated.clash]}
    # Backwards, because a resolved clause brings in negations of literals that were held earlier only.
    for literal, label in reversed(list(propagated.steps)):
        if label != 0 and negated(literal) in left:
            rows.append(("given", label))
            rows.append(_resolve_row(literal, len(rows) - 1, len(rows) - 2))
            del left[negated(literal)]
            left.update({other: True for other in clauses[label] if other != literal})
    return tuple(rows)
