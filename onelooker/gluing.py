"""Gluing, renaming, comparing and describing models (points 95 to 97)."""

from onelooker.cards import renamed_card
from onelooker.errors import BadCell, NamesMismatch, NoOwner, SharedOwner
from onelooker.kindsfits import block_of
from onelooker.literals import clause_of, equal, shared_literals
from onelooker.models import Model
from onelooker.names import block_count, check_names, renamed_marks
from onelooker.problems import Problem
from onelooker.terms import renamed_term, term_rank
from onelooker.typetables import own_atoms


def _own_parts(model):
    """The own parts of a model by owner."""
    return {owner: model.own_part(owner) for owner in model.owners}


def glued(first, second):
    """The model with the theories and the own parts of both."""
    if first.names != second.names:
        raise NamesMismatch()
    if first.cell != second.cell:
        raise BadCell(second.cell)
    for owner in first.owners:
        if owner in second.owners:
            raise SharedOwner(owner)
    return Model(first.names, {**first.theories(), **second.theories()}, first.cell,
                 {**_own_parts(first), **_own_parts(second)})


def without_owner(model, owner):
    """The model without a theory and its own part."""
    if owner not in model.owners:
        raise NoOwner(owner)
    theories, parts = model.theories(), _own_parts(model)
    del theories[owner]
    return Model(model.names, theories, model.cell, parts)


def _renamed_index(own, card, new_card, cell):
    """The own part of the renamed rows card whose row is the renamed row of an own part."""
    _, words = card[1][own[0]]
    return (new_card[1].index((cell, words)),)


def _renamed_pairs(own, blocks, mapping):
    """An own part of a terms card with its names replaced; the blocks give the new number of each block."""
    values = {renamed_term(term, mapping): value for term, value in own}
    numbers = dict(enumerate(blocks))
    # The blocks have the first numbers, so the number of numbers is the next one to give.
    return tuple([(term, numbers.setdefault(values[term], len(numbers)))
                  for term in sorted(list(values), key=term_rank)])


def _renamed_part(model, owner, blocks, mapping, cell):
    """The own part of an owner after renaming; the blocks give the new number of each block."""
    card, own = model.card(owner), model.own_part(owner)
    if card[0] == "rows":
        return _renamed_index(own, card, renamed_card(card, model.names, mapping), cell)
    if card[0] == "below":
        return tuple(sorted([(blocks[low], blocks[high]) for low, high in own]))
    if card[0] == "terms":
        return _renamed_pairs(own, blocks, mapping)
    return tuple([own[blocks.index(block)] for block in range(len(blocks))])


def renamed_model(model, mapping):
    """The model with its names replaced."""
    names = tuple(sorted([mapping.get(name, name) for name in model.names]))
    check_names(names)
    size, marks = model.cell
    cell = (size, renamed_marks(model.names, marks, mapping))
    firsts = [model.names[marks.index(block)] for block in range(block_count(marks))]
    blocks = [block_of(names, cell, mapping.get(name, name)) for name in firsts]
    cards = {owner: renamed_card(model.card(owner), model.names, mapping) for owner in model.owners}
    parts = {owner: _renamed_part(model, owner, blocks, mapping, cell) for owner in model.owners}
    return Model(names, cards, cell, parts)


def apart(first, second, literals):
    """The first of the literals that holds in exactly one of two models; None if there is none."""
    for literal in literals:
        if first.holds(literal) != second.holds(literal):
            return literal
    return None


def _term_literals(owner, names, cell, own):
    """The literals that describe an own part of a terms card."""
    _, marks = cell
    firsts = {block: (names[marks.index(block)],) for block in range(block_count(marks))}
    told = [(term, firsts.setdefault(value, term)) for term, value in own]
    return [equal(owner, term, first) for term, first in told if term != first]


def _own_literals(model, owner):
    """The literals that describe the own part of an owner."""
    card = model.card(owner)
    if card[0] == "terms":
        return _term_literals(owner, model.names, model.cell, model.own_part(owner))
    atoms = own_atoms(owner, card, model.names)
    return [(atom, model.holds((atom, True))) for atom in atoms]


def described(model):
    """The problem that describes the model, with one literal in each clause."""
    shared = [literal for literal in shared_literals(model.names) if model.holds(literal)]
    own = [literal for owner in model.owners for literal in _own_literals(model, owner)]
    clauses = [(literal,) for literal in clause_of([*shared, *own])]
    return Problem(model.names, model.theories(), dict(enumerate(clauses, start=1)))
