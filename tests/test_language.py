"""Those rules of the program's language that are easily seen in the syntax of a file."""

import ast
import importlib
import pathlib
import unittest

import onelooker

BUILTINS = set("""len range enumerate zip min max sum abs sorted reversed int str bool list tuple dict set isinstance
    ord repr any all divmod iter next map Exception ValueError TypeError KeyError IndexError LookupError
    ZeroDivisionError ArithmeticError OverflowError RuntimeError NotImplementedError AttributeError StopIteration
    NotImplemented staticmethod classmethod property super""".split())
METHODS = set("""append clear copy count endswith extend find get index insert isalnum isalpha isdigit islower isspace
    isupper items join keys ljust lower lstrip partition pop remove replace reverse rfind rjust rpartition rsplit
    rstrip setdefault split splitlines startswith strip update upper values zfill bit_length""".split())
SPECIAL = set("""__init__ __eq__ __repr__ __str__ __len__ __enter__ __exit__ __call__ __iter__ __add__ __sub__ __and__
    __or__ __invert__ __contains__ __getitem__ __setitem__""".split())
OPERATORS = SPECIAL - {"__init__", "__call__", "__setitem__", "__enter__", "__exit__"}
MODIFYING = set("append clear extend insert pop remove reverse setdefault sort update add discard".split())
BARRED_WORDS = ("type", "typing", "enum", "Enum", "Flag", "Generic", "Protocol", "namedtuple")
BARRED_NODES = (ast.Global, ast.AsyncFunctionDef, ast.AsyncFor, ast.AsyncWith, ast.Await, ast.Div, ast.Import)
ITERATING = ("list", "tuple", "dict", "sorted", "sum", "min", "max", "any", "all", "enumerate", "zip", "join")
TAKING_LISTS = ("any", "all", "min", "max", "sum", "sorted")

FOLDER = pathlib.Path(onelooker.__file__).parent
FILES = sorted(path for path in FOLDER.rglob("*") if path.is_file() and "__pycache__" not in path.parts)
TEXTS = {path.name: path.read_text(encoding="utf-8") for path in FILES}
TREES = {name: ast.parse(text) for name, text in TEXTS.items()}


def nodes(kind):
    """The nodes of this kind in all files, with their files."""
    return [(name, node) for name, tree in TREES.items() for node in ast.walk(tree) if isinstance(node, kind)]


def called(node):
    """The name of the function or the method that a call calls."""
    return getattr(node.func, "id", getattr(node.func, "attr", ""))


def is_plain(node):
    """True if an expression is made of names, attributes, literals, and lists, tuples and dicts of these."""
    if isinstance(node, (ast.List, ast.Tuple)):
        return all(is_plain(part) for part in node.elts)
    if isinstance(node, ast.Attribute):
        return is_plain(node.value)
    return isinstance(node, (ast.Name, ast.Constant))


def is_property(node):
    """True if a function is a property that is read."""
    return any(isinstance(mark, ast.Name) and mark.id == "property" for mark in node.decorator_list)


def run_by_operators():
    """All functions that operators and properties run, with their files: what is called by its bare name."""
    functions = nodes(ast.FunctionDef)
    starts = {node.name: [part for part in node.body if isinstance(part, ast.FunctionDef) and part.name == "__init__"]
              for _, node in nodes(ast.ClassDef)}
    found = [(name, node) for name, node in functions if node.name in OPERATORS or is_property(node)]
    # The list grows while it is gone through, until nothing new is called.
    for _, runs in found:
        words = {called(node) for node in ast.walk(runs) if isinstance(node, ast.Call)}
        made = [start for word in words & set(starts) for start in starts[word]]
        found += [row for row in functions if row not in found and (row[1].name in words or row[1] in made)]
    return found


def bound_names(function):
    """The parameters and local variables of a function."""
    stored = {node.id for node in ast.walk(function) if isinstance(node, ast.Name) and isinstance(node.ctx, ast.Store)}
    return stored | {node.arg for node in ast.walk(function) if isinstance(node, ast.arg)}


class LanguageTest(unittest.TestCase):

    def test_the_folder_holds_python_files_alone(self):
        self.assertEqual([path.name for path in FILES if path.suffix != ".py"], [])
        self.assertIn("__init__.py", TEXTS)

    def test_sizes_and_characters(self):
        for name, text in TEXTS.items():
            self.assertLessEqual(len(text.splitlines()), 399, name)
            for line in text.splitlines():
                self.assertLessEqual(len(line), 120, f"{name}: {line}")
            self.assertEqual([sign for sign in text if sign != "\n" and not " " <= sign <= "~"], [], name)

    def test_functions_have_at_most_40_lines(self):
        for name, node in nodes(ast.FunctionDef):
            self.assertLessEqual(node.end_lineno - node.lineno + 1, 40, f"{name}: {node.name}")

    def test_no_statement_or_expression_outside_the_language(self):
        for name, node in nodes(BARRED_NODES):
            self.fail(f"{name}:{node.lineno}: {type(node).__name__}")

    def test_no_generator_expression_where_a_list_is_asked(self):
        for name, node in nodes(ast.Call):
            if isinstance(node.func, ast.Name) and node.func.id in TAKING_LISTS:
                for argument in node.args:
                    self.assertNotIsInstance(argument, ast.GeneratorExp, f"{name}:{node.lineno}")

    def test_reversed_takes_what_is_plainly_a_list(self):
        for name, node in nodes(ast.Call):
            if isinstance(node.func, ast.Name) and node.func.id == "reversed":
                self.assertIsInstance(node.args[0], ast.Call, f"{name}:{node.lineno}")
                self.assertIn(node.args[0].func.id, ("list", "tuple", "sorted", "range"), f"{name}:{node.lineno}")

    def test_generators_are_iterated_at_once(self):
        functions = [node for _, node in nodes(ast.FunctionDef)]
        own = [node.name for node in functions
               if any(isinstance(part, (ast.Yield, ast.YieldFrom)) for part in ast.walk(node))]
        self.assertLessEqual({"picks", "fitting_picks"}, set(own))
        names = [node.name for node in functions]
        self.assertEqual([name for name in own if names.count(name) != 1], [])
        self.check_iterated(own)

    def test_generators_are_passed_plain_values(self):
        own = {node.name for _, node in nodes(ast.FunctionDef)
               if any(isinstance(part, (ast.Yield, ast.YieldFrom)) for part in ast.walk(node))}
        for name, node in nodes(ast.Call):
            if called(node) in own:
                self.assertTrue(all(is_plain(argument) for argument in node.args), f"{name}:{node.lineno}")

    def test_stars(self):
        for name, node in nodes(ast.Set):
            self.assertEqual([part for part in node.elts if isinstance(part, ast.Starred)], [], f"{name}:{node.lineno}")
        for name, node in nodes(ast.Call):
            starred = [part.value for part in node.args if isinstance(part, ast.Starred)]
            starred += [part.value for part in node.keywords if part.arg is None]
            self.assertTrue(all(is_plain(part) for part in starred), f"{name}:{node.lineno}")

    def test_loops_do_not_bind_what_they_go_over(self):
        for name, node in nodes(ast.For):
            over = {part.id for part in ast.walk(node.iter) if isinstance(part, ast.Name) and part.id == part.id.lower()}
            over -= {part.id for made in ast.walk(node.iter) if isinstance(made, ast.comprehension)
                     for part in ast.walk(made.target) if isinstance(part, ast.Name)}
            bound = {part.id for line in node.body for part in ast.walk(line)
                     if isinstance(part, ast.Name) and isinstance(part.ctx, ast.Store)}
            self.assertEqual(sorted(over & bound), [], f"{name}:{node.lineno}")

    def test_views_and_zips_are_iterated_at_once(self):
        self.check_iterated(["zip", "enumerate", "reversed", "range", "items", "keys", "values"])

    def check_iterated(self, names):
        """Each call of one of these stands where it is iterated on the spot."""
        allowed = {id(node.iter) for _, node in nodes((ast.For, ast.comprehension))}
        allowed |= {id(node.value) for _, node in nodes(ast.YieldFrom)}
        for _, node in nodes(ast.Call):
            if called(node) in ITERATING:
                allowed |= {id(argument) for argument in node.args}
        for name, node in nodes(ast.Call):
            if called(node) in names:
                self.assertIn(id(node), allowed, f"{name}:{node.lineno}")

    def test_operators_and_properties_call_nothing_that_an_object_holds(self):
        stored = {node.attr for _, node in nodes(ast.Attribute) if isinstance(node.ctx, ast.Store)}
        found = run_by_operators()
        self.assertLessEqual({"__getitem__", "check_literal", "__init__", "last", "cells_over"},
                             {function.name for _, function in found})
        for name, function in found:
            held = stored | bound_names(function)
            for node in ast.walk(function):
                if isinstance(node, ast.Call):
                    self.assertIsInstance(node.func, (ast.Name, ast.Attribute), f"{name}:{node.lineno}")
                    self.assertNotIn(called(node), held, f"{name}:{node.lineno}")

    def test_operators_and_properties_change_nothing(self):
        for name, function in run_by_operators():
            made = {node.targets[0].id for node in ast.walk(function) if isinstance(node, ast.Assign)
                    and isinstance(node.targets[0], ast.Name) and isinstance(node.value, (ast.List, ast.Dict, ast.ListComp))}
            for node in ast.walk(function):
                place = f"{name}:{getattr(node, 'lineno', 0)}"
                if isinstance(node, ast.Attribute) and isinstance(node.ctx, ast.Store):
                    self.assertEqual((function.name, node.value.id), ("__init__", "self"), place)
                if isinstance(node, ast.Subscript) and not isinstance(node.ctx, ast.Load):
                    self.assertIn(getattr(node.value, "id", ""), made, place)
                if isinstance(node, ast.Call) and called(node) in MODIFYING:
                    self.assertIn(getattr(getattr(node.func, "value", None), "id", ""), made, place)
                if isinstance(node, ast.AugAssign):
                    self.assertIsInstance(node.value, ast.Constant, place)

    def test_imports_name_the_file_that_defines(self):
        for name, node in nodes(ast.ImportFrom):
            self.assertTrue(node.module.startswith("onelooker."), name)
            source = TREES[node.module.split(".")[1] + ".py"]
            defined = {part.name for part in source.body if isinstance(part, (ast.FunctionDef, ast.ClassDef))}
            defined |= {target.id for part in source.body if isinstance(part, ast.Assign) for target in part.targets}
            for alias in node.names:
                self.assertIn(alias.name, defined, name)

    def test_builtins_are_those_of_the_language_and_keep_their_meaning(self):
        every = set(dir(importlib.import_module("builtins")))
        for name, node in nodes((ast.Name, ast.arg, ast.FunctionDef, ast.ClassDef)):
            used = getattr(node, "id", None) or getattr(node, "arg", None) or node.name
            if used in every:
                self.assertIsInstance(node, ast.Name, f"{name}: {used}")
                self.assertIsInstance(node.ctx, ast.Load, f"{name}:{node.lineno}: {used}")
                self.assertIn(used, BUILTINS, f"{name}:{node.lineno}")

    def test_called_methods_are_own_or_of_the_language(self):
        own = {node.name for _, node in nodes(ast.FunctionDef)}
        for name, node in nodes(ast.Call):
            if isinstance(node.func, ast.Attribute):
                self.assertIn(node.func.attr, METHODS | own, f"{name}:{node.lineno}")

    def test_double_underscore_methods(self):
        for name, node in nodes(ast.FunctionDef):
            if node.name.startswith("__"):
                self.assertIn(node.name, SPECIAL, name)

    def test_strings(self):
        for name, node in nodes(ast.Constant):
            self.assertNotIsInstance(node.value, (float, bytes, complex), name)
            if isinstance(node.value, str):
                self.assertNotIn("%", node.value, name)
                self.assertNotIn(node.value, BARRED_WORDS, name)

    def test_sets_stand_in_sorted_or_len_alone(self):
        allowed = {id(argument) for _, node in nodes(ast.Call) if isinstance(node.func, ast.Name)
                   and node.func.id in ("sorted", "len") and not node.keywords for argument in node.args}
        made = [(name, node) for name, node in nodes(ast.Call)
                if isinstance(node.func, ast.Name) and node.func.id == "set"]
        for name, node in made + nodes((ast.SetComp, ast.Set)):
            self.assertIn(id(node), allowed, f"{name}:{node.lineno}")

    def test_no_name_of_an_import_is_bound_again(self):
        for name, tree in TREES.items():
            imports = [node for node in ast.walk(tree) if isinstance(node, ast.ImportFrom)]
            imported = {alias.name for node in imports for alias in node.names}
            imported |= {node.name for node in tree.body if isinstance(node, ast.ClassDef)}
            for node in ast.walk(tree):
                if isinstance(node, ast.Name) and isinstance(node.ctx, ast.Store):
                    self.assertNotIn(node.id, imported, f"{name}:{node.lineno}")
                if isinstance(node, ast.arg):
                    self.assertNotIn(node.arg, imported, f"{name}:{node.lineno}")

    def test_names_of_static_methods_properties_and_class_values_mean_one_thing(self):
        plain, static, properties, values, classes = [], [], [], [], nodes(ast.ClassDef)
        for _, holder in classes:
            for node in holder.body:
                if isinstance(node, ast.Assign):
                    values += [target.id for target in node.targets]
                if isinstance(node, ast.FunctionDef):
                    marks = [getattr(mark, "id", "setter") for mark in node.decorator_list]
                    kind = static if "staticmethod" in marks else properties if marks else plain
                    kind.append(node.name)
        attributes = {node.attr for _, node in nodes(ast.Attribute) if isinstance(node.ctx, ast.Store)}
        self.assertEqual(sorted(set(static) & ({*plain, *properties, *values} | attributes)), [])
        self.assertEqual(sorted(set(properties) & {*plain, *values}), [])
        self.assertEqual(sorted(set(values) & ({*plain} | attributes)), [])
        self.assertEqual(sorted({*static, *properties, *values, *attributes, *plain} & {"keys", "args", "items"}), [])

    def test_no_attribute_is_called_like_a_method(self):
        methods = {node.name for _, holder in nodes(ast.ClassDef) for node in holder.body
                   if isinstance(node, ast.FunctionDef) and not node.decorator_list}
        stored = {node.attr for _, node in nodes(ast.Attribute) if isinstance(node.ctx, ast.Store)}
        self.assertEqual(sorted(methods & stored), [])
