"""Literals and clauses: making, taking apart, and renaming them (points 8 to 10)."""

from onelooker.errors import BadClause, BadLiteral
from onelooker.names import pairs
from onelooker.terms import is_plain, renamed_term, term_names

MOST_LITERALS = 8


def _in_order(first, second):
    """Two values as a pair, the lesser one first."""
    return (first, second) if first < second else (second, first)


def same(first, second):
    """The literal that two names, in either order, are the same thing."""
    if first == second:
        raise BadLiteral((first, second))
    return (("", "same", *_in_order(first, second)), True)


def size_at_most(limit):
    """The literal that the model has at most so many things."""
    return (("", "size", limit), True)


def word(owner, text):
    """The literal that a word of a rows card holds."""
    return ((owner, "word", text), True)


def of_kind(owner, name, kind):
    """The literal that the thing of a name has a kind."""
    return ((owner, "kind", name, kind), True)


def below(owner, low, high):
    """The literal that the thing of one name is below the thing of the other one."""
    return ((owner, "below", low, high), True)


def turn(owner, start, end, steps):
    """The literal that the color of end is so many steps after the color of start."""
    return ((owner, "turn", start, end, steps), True)


def equal(owner, first, second):
    """The literal that two terms, in either order, have the same value."""
    if first == second or (is_plain(first) and is_plain(second)):
        raise BadLiteral((first, second))
    return ((owner, "equal", *_in_order(first, second)), True)


def negated(literal):
    """The literal with the other sign."""
    atom, sign = literal
    return (atom, not sign)


def owner_of(literal):
    """The owner of the atom of a literal; the empty string for shared literals."""
    return literal[0][0]


def atom_names(atom):
    """The different names of the problem in an atom, ascending."""
    form = atom[1]
    if form == "equal":
        found = [name for term in atom[2:] for name in term_names(term)]
    elif form == "kind":
        found = [atom[2]]
    elif form in ("same", "below", "turn"):
        found = [atom[2], atom[3]]
    else:
        found = []
    return tuple(sorted(set(found)))


def clause_of(literals):
    """The clause of a list or tuple of literals, however many."""
    return tuple(sorted(set(literals)))


def clause(*literals):
    """The clause of the arguments, which are given in any order and perhaps several times."""
    found = clause_of(literals)
    if len(found) > MOST_LITERALS:
        raise BadClause(literals)
    return found


def negations(literals):
    """The different negations of the literals, ascending."""
    return clause_of([negated(literal) for literal in literals])


def holds_at(names, literal, cell):
    """True if a shared literal holds at a cell over the names."""
    atom, sign = literal
    size, marks = cell
    if atom[1] == "same":
        truth = marks[names.index(atom[2])] == marks[names.index(atom[3])]
    else:
        truth = size <= atom[2]
    return truth == sign


def shared_literals(names):
    """All shared literals over the names, of both signs, ascending."""
    atoms = [("", "same", first, second) for first, second in pairs(names)]
    atoms = atoms + [("", "size", 1), ("", "size", 2)]
    return [(atom, sign) for atom in atoms for sign in (False, True)]


def _renamed_parts(atom, mapping):
    """What follows the owner and the form in the renamed atom."""
    form = atom[1]
    if form == "equal":
        return _in_order(renamed_term(atom[2], mapping), renamed_term(atom[3], mapping))
    if form == "kind":
        return (mapping.get(atom[2], atom[2]), atom[3])
    if form in ("same", "below", "turn"):
        first, second = mapping.get(atom[2], atom[2]), mapping.get(atom[3], atom[3])
        return _in_order(first, second) if form == "same" else (first, second, *atom[4:])
    return atom[2:]


def renamed_literal(literal, mapping):
    """The literal with the names of the problem replaced; owners, words, kinds and functions stay."""
    atom, sign = literal
    return ((atom[0], atom[1], *_renamed_parts(atom, mapping)), sign)
