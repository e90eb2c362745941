"""Picks of clauses, and the units that the picks make up (point 57)."""

from onelooker.literals import negated


def _next_places(clauses, places):
    """The places of the literals in the pick behind the pick with these places; None behind the last pick."""
    at = len(places) - 1
    while at >= 0 and places[at] == len(clauses[at]) - 1:
        at -= 1
    if at < 0:
        return None
    return places[:at] + [places[at] + 1] + [0] * (len(places) - at - 1)


def picks(clauses):
    """Generates all picks; the literal of the last clause changes fastest."""
    places = None if () in clauses else [0] * len(clauses)
    while places is not None:
        yield tuple([clause[place] for clause, place in zip(clauses, places)])
        places = _next_places(clauses, places)


def is_torn(literals):
    """True if the literals contain a literal and its negation."""
    found = {literal: True for literal in literals}
    return any([negated(literal) in found for literal in literals])


def _is_unit(literals, clauses):
    """True if the literals, which are not torn, hit each clause and are all needed for that."""
    needed = {}
    for clause in clauses:
        hits = [literal for literal in clause if literal in literals]
        if len(hits) == 0:
            return False
        if len(hits) == 1:
            needed[hits[0]] = True
    return len(needed) == len(literals)


def least_units(clauses):
    """All units, ascending."""
    # There are far fewer choices of no or one literal for each atom than there may be picks.
    choices = [()]
    for atom in sorted({atom for clause in clauses for atom, _ in clause}):
        choices = [(*chosen, *more) for chosen in choices for more in ((), ((atom, False),), ((atom, True),))]
    different = list({clause: True for clause in clauses})
    return sorted([chosen for chosen in choices if _is_unit(chosen, different)])
