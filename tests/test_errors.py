"""Point 4: the errors."""

import unittest

from tests.helping import GREAT, Case
from turnsfit import errors

WITH_AT = ("InvalidNode", "InvalidPlace", "InvalidFormula", "InvalidSchema", "InvalidTable", "InvalidTurning",
           "InvalidEdit", "InvalidAsk", "InvalidText")


class ErrorsTest(Case):
    def test_bases(self):
        self.assertEqual(errors.FitError.__bases__, (Exception,))
        for name in WITH_AT + ("InvalidSize", "InvalidCommand", "Refused"):
            self.assertEqual(getattr(errors, name).__bases__, (errors.FitError,), name)
        self.assertEqual(errors.NoName.__bases__, (KeyError,))

    def test_arguments_are_kept_themselves(self):
        thing = [1]
        for name in WITH_AT:
            self.assertIs(getattr(errors, name)(thing).at, thing)
            self.assertIs(getattr(errors, name)(at=thing).at, thing)
        for made in (errors.InvalidSize(thing), errors.InvalidSize(word=thing), errors.Refused(thing),
                     errors.Refused(word=thing)):
            self.assertIs(made.word, thing)
        self.assertIs(errors.NoName(thing).name, thing)
        self.assertEqual(errors.NoName(name=GREAT).name, GREAT)
        thing.append(2)
        self.assertEqual(errors.InvalidNode(thing).at, [1, 2])
        self.assertEqual(vars(errors.InvalidCommand()), {})

    def test_counts_of_arguments(self):
        for name in WITH_AT + ("InvalidSize", "Refused", "NoName"):
            with self.assertRaises(TypeError):
                getattr(errors, name)()


if __name__ == "__main__":
    unittest.main()
