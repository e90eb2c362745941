"""Normal forms of terms, and the rules of equations (points 39 to 41)."""

from onelooker.equalterms import closure
from onelooker.terms import is_plain, term_rank


def _with_least_arguments(term, leads, forms):
    """The term with its arguments replaced by the least forms known so far."""
    return (term[0], *[forms[leads[part]] for part in term[1:]])


def _normal_forms(equations, terms):
    """The normal form of each known term, in the order of terms."""
    leads = closure([equation[1:] for equation in equations], terms)
    forms = {lead: lead for lead in leads.values()}
    changed = True
    # Least arguments make least values, so what no known term can make less is a normal form.
    while changed:
        changed = False
        for term, lead in leads.items():
            form = _with_least_arguments(term, leads, forms)
            if term_rank(form) < term_rank(forms[lead]):
                forms[lead] = form
                changed = True
    return {term: forms[lead] for term, lead in leads.items()}


def rewritten(term, equations):
    """The normal form of the term."""
    return _normal_forms(equations, [term])[term]


def rules(equations):
    """The rules of the equations, in the order of their left terms."""
    forms = _normal_forms(equations, [])
    found = {}
    for term, form in forms.items():
        left = (term[0], *[forms[part] for part in term[1:]])
        if left != form:
            found[left] = form
    return tuple([(left, found[left]) for left in sorted(list(found), key=term_rank)])


def _all_same(equations, others):
    """True if the two terms of each of the others are the same under the equations."""
    terms = [term for other in others for term in other[1:]]
    leads = closure([equation[1:] for equation in equations], terms)
    return all([leads[first] == leads[second] for _, first, second in others])


def alike_equations(equations, others):
    """True if the two terms of each equation of either list are the same under the other list."""
    return _all_same(equations, others) and _all_same(others, equations)
