"""The interface: every name stands in its file, with its arguments, and each file needs earlier ones only."""

import ast
import importlib
import inspect
import pathlib
import unittest

import onelooker

FUNCTIONS = {
    "errors": {},
    "names": {
        "is_name": "(value)", "check_names": "(names)", "pairs": "(names)", "marked": "(keys)",
        "block_count": "(marks)", "partitions": "(count)", "meet": "(first, second)", "cells_over": "(count)",
        "check_cell": "(cell, count)", "renamed_marks": "(names, marks, mapping)",
    },
    "terms": {
        "check_term": "(term)", "is_plain": "(term)", "depth": "(term)", "term_rank": "(term)", "subterms": "(term)",
        "term_names": "(term)", "renamed_term": "(term, mapping)",
    },
    "literals": {
        "same": "(first, second)", "size_at_most": "(limit)", "word": "(owner, text)",
        "of_kind": "(owner, name, kind)", "below": "(owner, low, high)", "turn": "(owner, start, end, steps)",
        "equal": "(owner, first, second)", "negated": "(literal)", "owner_of": "(literal)", "atom_names": "(atom)",
        "clause": "(*literals)", "clause_of": "(literals)", "negations": "(literals)",
        "holds_at": "(names, literal, cell)", "shared_literals": "(names)", "renamed_literal": "(literal, mapping)",
    },
    "cells": {},
    "cards": {
        "is_whole": "(value, least, most)", "check_card": "(card, width)",
        "renamed_card": "(card, names, mapping)", "check_literal": "(literal, names, theories)",
    },
    "problems": {},
    "scanning": {
        "tokens": "(text, *, line=1)", "read_number": "(text, *, least=0, most=999, line=1)",
    },
    "writing": {
        "write_term": "(term)", "write_literal": "(literal)", "write_clause": "(clause)", "write_card": "(card)",
        "written_lines": "(problem)", "write_problem": "(problem)",
    },
    "reading": {
        "read_term": "(text, *, line=1)", "read_literal": "(text, names, theories, *, line=1)",
        "read_clause": "(text, names, theories, *, line=1, most=8)", "read_card": "(text, width, *, line=1)",
        "read_problem": "(text)",
    },
    "equalterms": {"closure": "(pairs, terms)"},
    "chains": {
        "chain": "(equations, first, second)", "conclusions": "(equations, steps)", "read_chain": "(equations, steps)",
    },
    "leastterms": {
        "rewritten": "(term, equations)", "rules": "(equations)", "alike_equations": "(equations, others)",
    },
    "propagating": {
        "propagate": "(clauses, start=(), *, order=None)", "clash_rows": "(clauses, propagated)",
    },
    "flipping": {
        "positive": "(literal, flipped)", "is_horn": "(clauses, flipped)", "horn_flips": "(clauses, fixed)",
        "horn_bar": "(clauses, fixed)", "is_horn_bar": "(clauses, fixed, bar)",
        "horn_valuation": "(clauses, flipped)",
    },
    "picks": {"picks": "(clauses)", "is_torn": "(literals)", "least_units": "(clauses)"},
    "boolean": {
        "valuations": "(clauses)", "valuation": "(clauses)", "refutation_rows": "(clauses, goal=())",
    },
    "rowsfits": {
        "rows_parts": "(card, names, literals, cell)", "rows_truth": "(card, names, cell, own, atom)",
    },
    "kindsfits": {
        "kinds_size": "(card)", "kinds_parts": "(card, names, literals, cell)",
        "kinds_truth": "(card, names, cell, own, atom)",
    },
    "belowfits": {
        "closed_pairs": "(pairs)", "orders": "(count)", "below_parts": "(card, names, literals, cell)",
        "below_truth": "(card, names, cell, own, atom)", "below_part": "(card, names, literals, cell)",
    },
    "ringfits": {
        "ring_parts": "(card, names, literals, cell)", "ring_truth": "(card, names, cell, own, atom)",
    },
    "termsfits": {
        "terms_part": "(card, names, literals, cell)", "term_value": "(names, cell, own, term)",
        "terms_truth": "(card, names, cell, own, atom)",
    },
    "deciders": {
        "all_parts": "(card, names, literals, cell)", "fits": "(card, names, literals, cell)",
        "true_in": "(card, names, cell, own, literal)", "cells_of": "(card, names, literals, *, among=None)",
        "clashes": "(card, names, literals, *, among=None)", "least_clash": "(card, names, literals)",
    },
    "typetables": {"own_atoms": "(owner, card, names)", "type_rows": "(owner, card, names)"},
    "certificates": {},
    "checking": {
        "row_clauses": "(problem, certificate)", "check": "(problem, certificate)", "refutes": "(problem, certificate)",
    },
    "trimming": {
        "trimmed": "(certificate, *, end=None)", "merged": "(certificate)", "joined": "(first, second, atom)",
        "leans": "(certificate)", "theory_owners": "(certificate)",
        "renamed_certificate": "(certificate, mapping)", "relabelled": "(certificate, mapping)",
        "discharged": "(certificate, assumptions)", "tightened": "(problem, certificate)",
    },
    "certtexts": {
        "write_certificate": "(certificate)", "certificate_lines": "(certificate)",
        "read_certificate": "(text, names, theories)",
    },
    "models": {},
    "standing": {
        "fitting_picks": "(problem, cell)", "standing": "(problem)", "has_model": "(problem)",
        "stands_at": "(problem, cell)", "models": "(problem)", "least_model": "(problem)",
    },
    "gluing": {
        "glued": "(first, second)", "without_owner": "(model, owner)", "renamed_model": "(model, mapping)",
        "apart": "(first, second, literals)", "described": "(model)",
    },
    "families": {
        "unit_sets": "(names)", "family": "(owner, card, names)",
        "family_sets": "(owner, card, names, *, inside=None)",
    },
    "convexity": {
        "is_smooth": "(owner, card, names)", "is_convex": "(owner, card, names)",
        "table_closed": "(owner, card, names)", "meet_gap": "(owner, card, names)",
        "cards_alike": "(owner, first, second, names)",
    },
    "asrows": {
        "rows_card": "(owner, card, names)", "rows_literal": "(owner, card, names, literal)",
        "rows_problem": "(problem, owner)",
    },
    "jointcards": {"joint_card": "(first, second)", "joint_problem": "(problem, first, second)"},
    "policies": {},
    "telling": {
        "told_literals": "(kinds, names, known, heard)", "demand": "(kinds, names, known, heard)",
        "is_stuck_point": "(policy, names, heard, known)",
    },
    "judging": {
        "gaps": "(policy, names, theories)", "gap": "(policy, names, theories)",
        "is_complete": "(policy, names, theories)", "stuck_problem": "(policy, names, theories)",
    },
    "reducing": {"reduced": "(policy, names, theories)", "extended": "(policy, names, theories)"},
    "rounds": {},
    "settling": {
        "settle": "(names, theories, policy, literals)", "branch_ends": "(names, theories, policy, literals)",
        "widest_points": "(names, theories, policy, literals)", "core": "(names, theories, policy, literals)",
    },
    "deciding": {"decide": "(problem, policy, *, order=None)"},
    "asking": {
        "follows": "(problem, clause, *, without=())", "follows_text": "(problem, text, *, without=())",
        "counter_models": "(problem, clause)", "certificate_for": "(problem, clause, policy)", "facts": "(problem)",
        "sharpened": "(problem, clause)", "slimmed": "(problem)", "alike": "(first, second)",
        "telling_model": "(first, second)",
    },
    "conflicts": {
        "conflicts": "(problem, *, most=None)", "corrections": "(problem, *, most=None)",
        "first_conflict": "(problem)", "hitting_sets": "(sets)", "walk_corrections": "(problem)",
    },
    "components": {
        "components": "(problem)", "component_problems": "(problem)", "clause_against": "(names, cell)",
        "problem_for": "(names, cells)", "shadow": "(problem)",
    },
    "interpolants": {
        "row_sets": "(left, right, certificate)", "interpolant": "(left, right, certificate)",
    },
    "easy": {"easy_flips": "(problem)", "decide_easy": "(problem)"},
    "sessions": {},
    "journal": {"journal_lines": "(session)"},
}

METHODS = {
    ("cells", "Cells"): {
        "__init__": "(self, width, rows)", "every": "(width)", "where": "(names, literals)",
        "__eq__": "(self, other)", "__len__": "(self)", "__iter__": "(self)", "__contains__": "(self, x)",
        "__and__": "(self, other)", "__or__": "(self, other)", "__sub__": "(self, other)", "__invert__": "(self)",
        "within": "(self, other)", "meet_marks": "(self)", "has_marks": "(self, marks)",
    },
    ("problems", "Problem"): {
        "__init__": "(self, names, theories, clauses)", "of": "(names, *clauses, **theories)",
        "__eq__": "(self, other)", "__len__": "(self)", "__iter__": "(self)", "__contains__": "(self, x)",
        "__getitem__": "(self, at)", "__add__": "(self, other)", "card": "(self, owner)", "theories": "(self)",
        "clauses": "(self)", "put": "(self, label, clause)", "drop": "(self, label)", "only": "(self, labels)",
        "renamed": "(self, mapping)", "atoms": "(self)",
    },
    ("equalterms", "EqualTerms"): {
        "__init__": "(self)", "of": "(*equations)", "__len__": "(self)", "__iter__": "(self)",
        "__contains__": "(self, x)", "__getitem__": "(self, at)", "put": "(self, label, first, second)",
        "undo": "(self)", "drop": "(self, label)", "same": "(self, first, second)",
        "reasons": "(self, first, second)", "classes": "(self, *terms)", "least": "(self, term)",
    },
    ("propagating", "Propagation"): {
        "replayed": "(clauses, steps)", "__len__": "(self)", "__iter__": "(self)", "__contains__": "(self, x)",
        "__getitem__": "(self, at)",
    },
    ("certificates", "Certificate"): {
        "__init__": "(self, rows)", "__eq__": "(self, other)", "__len__": "(self)", "__iter__": "(self)",
        "__getitem__": "(self, at)", "__add__": "(self, other)", "given": "(label)", "theory": "(owner, clause)",
        "resolve": "(self, first, second, atom)",
    },
    ("checking", "Checker"): {"__init__": "(self, problem)", "__call__": "(self, certificate)"},
    ("models", "Model"): {
        "__init__": "(self, names, theories, cell, own)", "__eq__": "(self, other)", "__call__": "(self, literal)",
        "card": "(self, owner)", "own_part": "(self, owner)", "theories": "(self)", "holds": "(self, literal)",
        "meets": "(self, clause)", "satisfies": "(self, problem)",
    },
    ("asrows", "Wording"): {
        "__init__": "(self, owner, sources, *, letter='w')", "of_card": "(owner, card, names)", "__len__": "(self)",
        "__iter__": "(self)", "__contains__": "(self, x)", "__getitem__": "(self, at)", "__call__": "(self, literal)",
    },
    ("policies", "Policy"): {
        "__init__": "(self, **told)", "alike": "(owners, kinds)", "__eq__": "(self, other)", "__len__": "(self)",
        "__iter__": "(self)", "__contains__": "(self, x)", "__or__": "(self, other)", "__and__": "(self, other)",
        "kinds": "(self, owner)", "with_kind": "(self, owner, kind)", "without": "(self, owner, kind)",
        "covers": "(self, other)",
    },
    ("rounds", "Rounds"): {
        "__init__": "(self, names, theories, policy, literals)", "live": "(self, owner)", "tellable": "(self)",
        "tell": "(self, owner, literal)", "hear": "(self, literal)", "run": "(self)", "walk": "(self)",
        "demand_now": "(self)", "branch": "(self, literal)", "reason": "(self, index)",
        "resumed": "(names, theories, policy, literals, told)",
    },
    ("settling", "Settled"): {},
    ("deciding", "Outcome"): {"__init__": "(self, verdict, model, certificate, pick)"},
    ("sessions", "Session"): {
        "__init__": "(self, names, theories, policy)", "__len__": "(self)", "__iter__": "(self)",
        "__contains__": "(self, x)", "__getitem__": "(self, at)", "__setitem__": "(self, at, worth)",
        "drop": "(self, label)", "undo": "(self)", "ask": "(self)", "use": "(self, policy)",
        "what_if": "(self, clauses)",
    },
}

STATIC = {("Cells", "every"), ("Cells", "where"), ("Problem", "of"), ("EqualTerms", "of"), ("Propagation", "replayed"),
          ("Certificate", "given"), ("Certificate", "theory"), ("Wording", "of_card"), ("Policy", "alike"),
          ("Rounds", "resumed")}
PROPERTIES = [("equalterms", "EqualTerms", "equations"), ("certificates", "Certificate", "last"),
              ("rounds", "Rounds", "shared"), ("rounds", "Rounds", "told"), ("rounds", "Rounds", "refuted"),
              ("sessions", "Session", "policy"), ("sessions", "Session", "total")]
GENERATORS = [("writing", "written_lines"), ("picks", "picks"), ("boolean", "valuations"),
              ("certtexts", "certificate_lines"), ("standing", "fitting_picks"), ("standing", "models"),
              ("families", "family_sets"), ("judging", "gaps"), ("settling", "branch_ends"), ("asking", "counter_models"),
              ("conflicts", "walk_corrections")]


def module(name):
    return importlib.import_module(f"onelooker.{name}")


class InterfaceTest(unittest.TestCase):

    def test_functions_stand_in_their_files(self):
        for place, functions in FUNCTIONS.items():
            for name, arguments in functions.items():
                found = getattr(module(place), name)
                self.assertEqual(found.__module__, f"onelooker.{place}", name)
                self.assertEqual(str(inspect.signature(found)), arguments, name)

    def test_methods_stand_in_their_classes(self):
        for (place, owner), methods in METHODS.items():
            holder = getattr(module(place), owner)
            self.assertEqual(holder.__module__, f"onelooker.{place}")
            for name, arguments in methods.items():
                found = vars(holder)[name]
                self.assertEqual(isinstance(found, staticmethod), (owner, name) in STATIC, name)
                self.assertEqual(str(inspect.signature(getattr(holder, name))), arguments, name)

    def test_properties_stand_in_their_classes(self):
        for place, owner, name in PROPERTIES:
            self.assertIsInstance(vars(getattr(module(place), owner))[name], property)

    def test_generators(self):
        for place, functions in FUNCTIONS.items():
            for name in functions:
                found = getattr(module(place), name)
                self.assertEqual(inspect.isgeneratorfunction(found), (place, name) in GENERATORS, name)

    def test_each_file_imports_from_earlier_ones_only(self):
        folder = pathlib.Path(onelooker.__file__).parent
        earlier = []
        for name in FUNCTIONS:
            tree = ast.parse((folder / f"{name}.py").read_text())
            for node in ast.walk(tree):
                if isinstance(node, ast.ImportFrom):
                    self.assertIn(node.module, earlier, name)
            earlier.append(f"onelooker.{name}")
