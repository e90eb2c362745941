"""Slow ways to find what policies and rounds do, by the words of the document, and samples to try them on."""

import itertools

from onelooker.families import family_sets
from onelooker.policies import Policy
from slow import all_cells, every_atom, random_card, random_literals, shared_of, shared_truth, slow_fits

KINDS = ("other", "same", "size", "some", "whole")
POLICIES = [(), ("other",), ("same",), ("size",), ("same", "some"), ("whole",), ("same", "other"), ("same", "size"),
            ("other", "whole"), KINDS, ("same", "some", "size"), ("same", "other", "size"), ("same", "some", "whole")]


def sets_over(width):
    """All sets of cells over so many names, as frozensets."""
    cells = all_cells(width)
    return [frozenset(some) for size in range(len(cells) + 1) for some in itertools.combinations(cells, size)]


def where_all_hold(names, literals):
    """The cells at which all these shared literals hold."""
    return frozenset(cell for cell in all_cells(len(names))
                     if all(shared_truth(names, cell, literal) for literal in literals))


def slow_units(names):
    """The unit sets: those nonempty sets that all literals which hold in them tell from the other cells."""
    found = set()
    atoms = sorted({atom for atom, _ in shared_of(names)})
    for signs in itertools.product((None, False, True), repeat=len(atoms)):
        found.add(where_all_hold(names, [(atom, sign) for atom, sign in zip(atoms, signs) if sign is not None]))
    return sorted(tuple(sorted(cells)) for cells in found if cells)


def kind_of(literal):
    """The kind under which a shared literal is told, by point 121."""
    atom, sign = literal
    return "size" if atom[1] == "size" else "same" if sign else "other"


def slow_told(kinds, names, known, heard):
    """What an owner tells, by point 124, for sets of cells."""
    live = set(known) & set(heard)
    return [literal for literal in sorted(shared_of(names))
            if kind_of(literal) in kinds and all(shared_truth(names, cell, literal) for cell in live)
            and not all(shared_truth(names, cell, literal) for cell in heard)]


def together(marks, names, pair):
    """True if a partition puts both names of a pair together."""
    return marks[names.index(pair[0])] == marks[names.index(pair[1])]


def slow_demand(kinds, names, known, heard):
    """What an owner with a live set demands, by point 125."""
    live = set(known) & set(heard)
    pairs = list(itertools.combinations(names, 2))
    met = [pair for pair in pairs if all(together(marks, names, pair) for _, marks in live)]
    if "some" in kinds and not any([pair for pair in pairs if together(marks, names, pair)] == met for _, marks in live):
        return tuple((("", "same", *pair), True) for pair in pairs if pair not in met)
    if "whole" in kinds and len(heard) > 1:
        for atom, sign in sorted(shared_of(names)):
            truths = {shared_truth(names, cell, (atom, sign)) for cell in heard}
            if sign and len(truths) == 2:
                return ((atom, True), (atom, False))
    return ()


def slow_quiet(kinds, names, known, heard):
    """True if an owner has a live set, tells nothing and demands nothing."""
    return (set(known) & set(heard) != set() and slow_told(kinds, names, known, heard) == []
            and slow_demand(kinds, names, known, heard) == ())


def slow_gaps(policy, names, theories):
    """The rows of the heard sets of all gaps, by point 129, found by trying all sets of the families."""
    families = {owner: [cells.rows for cells in family_sets(owner, theories[owner], names)] for owner in theories}
    found = []
    for heard in slow_units(names):
        lives = []
        for owner in sorted(theories):
            quiet = {frozenset(known) & frozenset(heard) for known in families[owner]
                     if slow_quiet(policy.kinds(owner), names, known, heard)}
            lives.append(sorted(quiet, key=sorted))
        if lives and has_empty_meet(lives):
            found.append(heard)
    return found


def has_empty_meet(lists):
    """True if one set of each list can be taken so that they have no common cell."""
    found = set(lists[0])
    for sets in lists[1:]:
        found = {low & high for low in found for high in sets}
    return frozenset() in found


def slow_known(names, theories, literals):
    """The known sets of the owners by their own literals, as sets of cells."""
    return {owner: frozenset(cell for cell in all_cells(len(names)) if slow_fits(
        card, names, [literal for literal in literals if literal[0][0] == owner], cell))
            for owner, card in theories.items()}


def slow_points(names, theories, policy, literals):
    """The points of a unit problem, by point 146, as ascending tuples of cells."""
    allowed = where_all_hold(names, [literal for literal in literals if literal[0][0] == ""])
    known = slow_known(names, theories, literals)
    return [heard for heard in slow_units(names) if set(heard) <= allowed and all(
        slow_quiet(policy.kinds(owner), names, known[owner], heard) for owner in theories)]


def random_policy(source, owners, chance=0.3):
    """Some policy for the owners; each kind is told with this chance, whole with a lower one."""
    told = {}
    for owner in owners:
        some = [kind for kind in KINDS if source.random() < (chance / 3 if kind == "whole" else chance)]
        told[owner] = tuple(some) if "same" in some else tuple(kind for kind in some if kind != "some")
    return Policy(**told)


def narrow_card(source, names):
    """Some card, often one whose theory has models at few cells only."""
    if source.random() < 0.3:
        return random_card(source, len(names))
    if source.random() < 0.3:
        return ("kinds", (("k", source.randint(1, 2)),)) if source.random() < 0.5 else ("kinds", (("k", 1), ("l", 1)))
    cells = source.sample(all_cells(len(names)), source.randint(1, 3))
    return ("rows", tuple(sorted({(cell, ("p",)[:source.randint(0, 1)]) for cell in cells})))


def random_theories(source, names, most=3):
    """Some cards for up to so many owners."""
    owners = source.sample("opq", min(most, source.choice((0, 1, 2, 2, 3, 3, 3))))
    return {owner: narrow_card(source, names) for owner in owners}


def random_unit(source, *, width=3, most=3, many=2):
    """Some unit problem: names, theories, a policy, and given literals, some of them perhaps twice."""
    names = ("a", "b", "c")[:source.randint(0, width)]
    owners = source.sample("opq", min(most, source.choice((0, 1, 2, 2, 3, 3, 3))))
    theories = {owner: narrow_card(source, names) if source.random() < 0.3 else random_card(source, len(names))
                for owner in owners}
    literals = source.sample(shared_of(names), source.choice((0, 0, 1, 2)))
    for owner, card in theories.items():
        literals += random_literals(source, owner, card, names, source.randint(0, many))
    source.shuffle(literals)
    return names, theories, random_policy(source, theories, 0.5), literals
