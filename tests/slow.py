"""Slow ways to find what the program finds, by the words of the document, and samples to try them on."""

import functools
import itertools
import random

from helper import same_pairs, terms_over
from onelooker.boolean import refutation_rows
from onelooker.deciders import clashes
from onelooker.errors import Stands
from onelooker.problems import Problem


def all_cells(width):
    """All cells over so many names, by the words of points 5 and 6, ascending."""
    marks = [keys for keys in itertools.product(range(max(width, 1)), repeat=width)
             if list(dict.fromkeys(keys)) == list(range(len(set(keys))))]
    return sorted((size, keys) for size in (1, 2, 3) for keys in marks if len(set(keys)) <= size)


def shared_truth(names, cell, literal):
    """True if a shared literal holds at a cell, by the words of point 12."""
    atom, sign = literal
    marks = dict(zip(names, cell[1]))
    return (marks[atom[2]] == marks[atom[3]] if atom[1] == "same" else cell[0] <= atom[2]) == sign


def shared_of(names):
    """All shared literals over the names, ascending."""
    atoms = [("", "same", low, high) for low, high in itertools.combinations(names, 2)]
    return [(atom, sign) for atom in atoms + [("", "size", 1), ("", "size", 2)] for sign in (False, True)]


def every_atom(owner, card, names, terms=()):
    """All atoms of a theory that is not a terms theory, two words in no row included; for others, over the terms."""
    if card[0] == "rows":
        return sorted({(owner, "word", text) for _, words in card[1] for text in words}
                      | {(owner, "word", "z"), (owner, "word", "z99")})
    if card[0] == "kinds":
        return [(owner, "kind", name, kind) for name in names for kind, _ in card[1]]
    if card[0] == "below":
        return [(owner, "below", low, high) for low in names for high in names]
    if card[0] == "ring":
        return [(owner, "turn", low, high, steps) for low in names for high in names for steps in range(card[1])]
    return [(owner, "equal", low, high) for low in sorted(terms) for high in sorted(terms)
            if low < high and len(low) + len(high) > 2]


def is_order(found):
    """True if the pairs are a strict order."""
    return all(low != high for low, high in found) and all(
        (low, high) in found for low, middle in found for other, high in found if middle == other)


def orders_on(many):
    """All strict orders on so many things, as sets of pairs."""
    every = list(itertools.permutations(range(many), 2))
    return [set(found) for size in range(len(every) + 1)
            for found in itertools.combinations(every, size) if is_order(set(found))]


def structures(card, many):
    """What theories may say of so many things: kinds or colors of each, or orders. More things stand for endless."""
    if card[0] == "below":
        return orders_on(many)
    if card[0] == "ring":
        return list(itertools.product(range(card[1]), repeat=many))
    found = itertools.product([kind for kind, _ in card[1]], repeat=many)
    return [kinds for kinds in found if all(count in (0, kinds.count(kind)) for kind, count in card[1])]


def atom_truth(structure, thing, atom, card):
    """True if an atom about kinds, orders or colors holds; a dict gives the things of the names."""
    if atom[1] == "kind":
        return structure[thing[atom[2]]] == atom[3]
    if atom[1] == "below":
        return (thing[atom[2]], thing[atom[3]]) in structure
    return structure[thing[atom[3]]] == (structure[thing[atom[2]]] + atom[4]) % card[1]


@functools.cache
def theory_models(owner, card, names, cell):
    """The different sets of the atoms of every_atom that hold in a model at a cell, by point 9. No terms."""
    size, marks = cell
    atoms = every_atom(owner, card, names)
    if card[0] == "rows":
        return {frozenset(atom for atom in atoms if atom[2] in words) for place, words in card[1] if place == cell}
    if card[0] == "kinds" and size != (3 if 0 in dict(card[1]).values() else sum(dict(card[1]).values())):
        return set()
    many = size if size < 3 else {"below": 4, "ring": 3, "kinds": 7}[card[0]]
    thing = dict(zip(names, marks))
    return {frozenset(atom for atom in atoms if atom_truth(structure, thing, atom, card))
            for structure in structures(card, many)}


def models_fit(models, names, literals, cell):
    """True if shared literals hold at the cell, and the others in one of the models that theory_models gives."""
    shared = [literal for literal in literals if literal[0][0] == ""]
    own = [literal for literal in literals if literal[0][0] != ""]
    return all(shared_truth(names, cell, literal) for literal in shared) and any(
        all((atom in model) == sign for atom, sign in own) for model in models)


def terms_fit(names, literals, cell):
    """True if literals of a terms card and shared literals fit the cell, by the words of point 68."""
    shared = [literal for literal in literals if literal[0][0] == ""]
    own = [literal for literal in literals if literal[0][0] != ""]
    if cell[0] != 3 or not all(shared_truth(names, cell, literal) for literal in shared):
        return False
    marks = dict(zip(names, cell[1]))
    told = [(atom[2], atom[3]) for atom, sign in own if sign]
    told += [((low,), (high,)) for low in names for high in names if low < high and marks[low] == marks[high]]
    _, same = same_pairs(told, [term for atom, _ in own for term in atom[2:]] + [(name,) for name in names])
    if any(((low,), (high,)) in same for low in names for high in names if marks[low] != marks[high]):
        return False
    return not any((atom[2], atom[3]) in same for atom, sign in own if not sign)


def slow_fits(card, names, literals, cell):
    """True if literals of one owner and shared ones fit the cell, found by trying."""
    if card is None:
        return all(shared_truth(names, cell, literal) for literal in literals)
    if card == ("terms",):
        return terms_fit(names, literals, cell)
    owner = ([literal[0][0] for literal in literals if literal[0][0] != ""] + ["o"])[0]
    return models_fit(theory_models(owner, card, names, cell), names, literals, cell)


def random_card(source, width, forms=("rows", "kinds", "below", "ring", "terms")):
    """Some card for so many names."""
    form = source.choice(forms)
    if form == "rows":
        cells = all_cells(width)
        return ("rows", tuple(sorted({
            (source.choice(cells), tuple(text for text in ("p", "q", "r") if source.random() < 0.5))
            for _ in range(source.randint(1, 8))})))
    if form == "kinds":
        counts = tuple((kind, source.randint(0, 2)) for kind in sorted(source.sample("klm", source.randint(1, 3))))
        good = 0 in dict(counts).values() or sum(dict(counts).values()) <= 2
        return ("kinds", counts) if good else random_card(source, width, ("kinds",))
    return ("ring", source.randint(2, 3)) if form == "ring" else (form,)


def random_literals(source, owner, card, names, many):
    """So many own literals of a theory, or fewer if it has no atoms; some of them perhaps several times."""
    terms = terms_over(names, ("f", "g"), 2)
    found = every_atom(owner, card, names, source.sample(terms, min(6, len(terms))) + [(name,) for name in names])
    return [(source.choice(found), source.random() < 0.6) for _ in range(many if found else 0)]


def random_problem(source, *, width=3, owners="opq", most=3, clauses=4, longest=3, forms=None):
    """Some problem with up to so many names, owners, clauses and literals in a clause."""
    names = ("a", "b", "c")[:source.randint(0, width)]
    forms = forms or ("rows", "kinds", "below", "ring", "terms")
    theories = {owner: random_card(source, len(names), forms)
                for owner in source.sample(owners, source.randint(0, min(most, len(owners))))}
    literals = source.sample(shared_of(names), 3)
    for owner, card in theories.items():
        literals += random_literals(source, owner, card, names, 5)
    return Problem(names, theories, {
        label: tuple(source.choice(literals) for _ in range(source.randint(1, longest)))
        for label in source.sample(range(1, 1000), source.randint(0, clauses))})


def slow_picks(problem, cell):
    """The picks of a problem that fit a cell, by the words of point 13, found by trying all, ascending."""
    names, models = problem.names, {}
    for owner in problem.owners:
        if problem.card(owner) != ("terms",):
            models[owner] = theory_models(owner, problem.card(owner), names, cell)
    found = []
    for pick in itertools.product(*[problem[label] for label in problem.labels]):
        good = all(shared_truth(names, cell, literal) for literal in pick if literal[0][0] == "")
        for owner in problem.owners:
            own = [literal for literal in pick if literal[0][0] == owner]
            good = good and (models_fit(models[owner], names, own, cell) if owner in models
                             else terms_fit(names, own, cell))
        if good:
            found.append(pick)
    return sorted(found)


def clauses_of_rows(clauses, rows):
    """The clauses of given and resolve rows, by the words of point 51; fails if a row is wrong."""
    found = []
    for row in rows:
        if row[0] == "given":
            found.append(set(clauses[row[1]]))
        else:
            _, first, second, atom = row
            assert 0 <= first < len(found) and 0 <= second < len(found), row
            assert (atom, True) in found[first] and (atom, False) in found[second], row
            found.append((found[first] - {(atom, True)}) | (found[second] - {(atom, False)}))
    return [tuple(sorted(found_one)) for found_one in found]


def random_theory_rows(source, problem, many):
    """Up to so many right theory rows: each clause is denied by literals that clash, and has some more literals."""
    rows = []
    for _ in range(many):
        owner = source.choice(["", *problem.owners])
        card = problem.card(owner) if owner else None
        literals = source.sample(shared_of(problem.names), 2)
        literals += random_literals(source, owner, card, problem.names, 2) if owner else []
        literals += [(atom, sign) for label in problem for atom, sign in problem[label] if atom[0] == owner][:2]
        if not any(slow_fits(card, problem.names, literals, cell) for cell in all_cells(len(problem.names))):
            rows.append(("theory", owner, tuple(sorted({(atom, not sign) for atom, sign in literals}))))
    return rows


def random_certificate_rows(source, problem, many=6):
    """Rows of an accepted certificate, and their clauses, as many of them resolve rows as can be found in some tries.

    Some rows are not needed, some occur twice.
    """
    rows = [("given", label) for label in problem] + random_theory_rows(source, problem, 6)
    source.shuffle(rows)
    rows += source.sample(rows, min(2, len(rows)))
    clauses = [set(problem[row[1]] if row[0] == "given" else row[2]) for row in rows]
    for _ in range(many * 10 if rows else 0):
        first, second = source.randrange(len(rows)), source.randrange(len(rows))
        both = sorted({atom for atom, sign in clauses[first] if sign and (atom, False) in clauses[second]})
        if both and len(rows) < 12 + many:
            atom = source.choice(both)
            rows.append(("resolve", first, second, atom))
            clauses.append((clauses[first] - {(atom, True)}) | (clauses[second] - {(atom, False)}))
    return rows, [tuple(sorted(found)) for found in clauses]


def theory_lemmas(problem):
    """Theory rows for all clauses of up to three literals, with atoms of the problem, that hold in each model."""
    rows = []
    for owner in ["", *problem.owners]:
        card = problem.card(owner) if owner else None
        literals = [(atom, sign) for atom in problem.atoms() if atom[0] in ("", owner) for sign in (False, True)]
        for size in (1, 2, 3):
            for some in itertools.combinations(literals, size):
                if len(dict(some)) == size and clashes(card, problem.names, some):
                    rows.append(("theory", owner, tuple(sorted((atom, not sign) for atom, sign in some))))
    return rows


def refuting_rows(problem):
    """Rows of a certificate that ends in the empty clause; None if none was found, or if there are many atoms."""
    if len(problem.atoms()) > 6:
        return None
    lemmas = theory_lemmas(problem)
    clauses = {**problem.clauses(), **{1000 + at: row[2] for at, row in enumerate(lemmas)}}
    try:
        rows = refutation_rows(clauses)
    except Stands:
        return None
    return [lemmas[row[1] - 1000] if row[0] == "given" and row[1] >= 1000 else row for row in rows]


def refutations(seed, many, **more):
    """So many problems that do not stand, each with rows of a certificate that shows it, always the same for a seed."""
    source = random.Random(seed)
    while many > 0:
        problem = random_problem(source, clauses=6, longest=2, **more)
        rows = refuting_rows(problem)
        if rows is not None and len(rows) > 3:
            many -= 1
            yield source, problem, rows
