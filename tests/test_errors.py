import unittest

from onelooker import errors

SHAPES = {
    "BadName": ("value",), "BadCell": ("value",), "BadTerm": ("value",), "BadLiteral": ("value",),
    "BadClause": ("value",), "BadCard": ("value",), "BadLabel": ("value",), "TakenLabel": ("label",),
    "NoLabel": ("label",), "NoOwner": ("owner",), "CardMismatch": ("owner",), "NamesMismatch": (),
    "TooMany": ("what",), "BadText": ("line",), "BadPolicy": ("owner", "kind"), "NotComplete": (),
    "NotTellable": ("owner", "literal"), "BadRow": ("index",), "BadStep": ("index",),
    "NotSame": ("first", "second"), "NothingToUndo": (), "SharedOwner": ("owner",), "Stands": (),
    "BadOrder": ("value",), "NotEasy": (),
}


class ErrorsTest(unittest.TestCase):

    def test_the_base_is_a_value_error(self):
        self.assertEqual(errors.LookerError.__bases__, (ValueError,))

    def test_these_are_all_errors(self):
        found = {name for name, value in vars(errors).items() if isinstance(value, type)}
        self.assertEqual(found, {"LookerError", *SHAPES})

    def test_each_error_derives_directly_from_the_base(self):
        for name in SHAPES:
            self.assertEqual(getattr(errors, name).__bases__, (errors.LookerError,), name)

    def test_arguments_become_attributes_in_their_order(self):
        for name, attributes in SHAPES.items():
            values = [("value", number) for number in range(len(attributes))]
            error = getattr(errors, name)(*values)
            self.assertEqual(vars(error), dict(zip(attributes, values)), name)
            for attribute, value in zip(attributes, values):
                self.assertIs(getattr(error, attribute), value, name)

    def test_arguments_are_required(self):
        for name, attributes in SHAPES.items():
            if attributes:
                with self.assertRaises(TypeError):
                    raise getattr(errors, name)(*["value"] * (len(attributes) - 1))

    def test_errors_take_values_that_python_cannot_show(self):
        deep = ()
        for _ in range(100000):
            deep = (deep,)
        self.assertIs(errors.BadTerm(deep).value, deep)
        self.assertEqual(errors.BadLabel(10 ** 5000).value, 10 ** 5000)
