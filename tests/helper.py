"""What the tests share."""

import copy
import unittest

from onelooker.errors import LookerError


class LookerCase(unittest.TestCase):
    """A test case that knows the errors of the program."""

    def refuses(self, error, told, call, *args, **more):
        """The call raises exactly this error, with exactly these attributes, of exactly these kinds."""
        with self.assertRaises(LookerError) as caught:
            call(*args, **more)
        self.assertIs(type(caught.exception), error)
        self.assertEqual(repr(vars(caught.exception)), repr(told))
        return caught.exception

    def gives(self, wanted, call, *args, **more):
        """The call returns this value, of exactly these kinds, and changes no argument."""
        before = copy.deepcopy((args, more))
        found = call(*args, **more)
        self.assertEqual(repr(found), repr(wanted))
        self.assertEqual((args, more), before)
        return found


def terms_over(names, functions, most):
    """All terms up to a depth over names and over functions with one and with two arguments."""
    found = [(name,) for name in names]
    for _ in range(most - 1):
        made = [(function, low) for function in functions for low in found]
        made += [(function, low, high) for function in functions for low in found for high in found]
        found = found + [term for term in made if term not in found]
    return found


def parts_of(term):
    """The subterms of a term, by the words of the document."""
    return {term}.union(*[parts_of(part) for part in term[1:]])


def same_pairs(pairs, terms):
    """The known terms, and a set of all pairs of them that follow from the rules of point 32, tried one by one."""
    known = set().union(*[parts_of(term) for pair in pairs for term in pair], *[parts_of(term) for term in terms])
    found = {(term, term) for term in known} | set(pairs)
    while True:
        more = {(high, low) for low, high in found}
        more |= {(low, high) for low, middle in found for other, high in found if middle == other}
        more |= {(low, high) for low in known for high in known
                 if len(low) == len(high) > 1 and low[0] == high[0]
                 and all((left, right) in found for left, right in zip(low[1:], high[1:]))}
        if more <= found:
            return known, found
        found |= more


def atoms_of(clauses):
    """The different atoms in the clauses, ascending."""
    return sorted({atom for literals in clauses for atom, _ in literals})


def every_choice(atoms):
    """For each way to give the atoms signs: the ascending tuple of the literals."""
    found = [()]
    for atom in atoms:
        found = [(*literals, (atom, sign)) for literals in found for sign in (False, True)]
    return found


def all_valuations(clauses):
    """All valuations of the clauses, found by trying, ascending."""
    return [chosen for chosen in every_choice(atoms_of(clauses))
            if all(set(chosen) & set(literals) for literals in clauses)]


def random_clauses(source, many, most, width):
    """Up to so many clauses, each of at most width literals, over at most so many atoms."""
    atoms = [("o", "word", f"w{number}") for number in range(most)]
    return [tuple(sorted({(source.choice(atoms), source.random() < 0.5) for _ in range(source.randint(0, width))}))
            for _ in range(source.randint(0, many))]
