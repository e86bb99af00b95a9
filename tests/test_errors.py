"""The errors: their base class, parameters and attributes."""

import unittest

from pilerecall import errors

PARAMETERS = {
    "BadMachine": ("where",),
    "BadLine": ("number",),
    "BadText": ("text",),
    "Guesses": ("key",),
    "BadStanding": ("standing",),
    "BadSurface": ("surface",),
    "TooLong": ("length",),
    "BadSplice": ("place", "removed", "letters"),
    "NothingToUndo": (),
    "BadDeed": ("index",),
    "BadTree": ("index",),
    "DoubleName": ("name",),
    "NoSuchProcedure": ("name",),
    "BadToken": ("place",),
    "UnlikeLetters": ("first", "second"),
    "BadCode": ("index",),
    "BadPaper": ("place",),
    "BadGrammar": ("index",),
    "NoSuchProgram": ("name",),
}


class ErrorsTest(unittest.TestCase):
    def test_the_base_class_is_a_value_error(self):
        self.assertEqual(errors.RecallError.__bases__, (ValueError,))

    def test_each_error_is_derived_directly_and_keeps_the_very_values(self):
        for name, parameters in PARAMETERS.items():
            made = getattr(errors, name)
            values = [[name, parameter] for parameter in parameters]
            with self.subTest(name):
                self.assertEqual(made.__bases__, (errors.RecallError,))
                for error in (made(*values), made(**dict(zip(parameters, values)))):
                    for parameter, value in zip(parameters, values):
                        self.assertIs(getattr(error, parameter), value)
                    self.assertIsInstance(str(error), str)


if __name__ == "__main__":
    unittest.main()
