"""The error classes: their bases, their fields, and what they keep."""

import unittest

from sametolls import errors
from tests.support import all_odd

PLAIN = """NoClock NoNumber NoRow NoPost NoWay NoPlan NotRight NotLeast NoGiven NoWays NoOrder NoLot NotUndoable NotAfter
NotAlike NoAnswers NoCounts NoTable NotSure NoRule NotRow NoTick NoCut NoHours NotOne NotPlanned NoProgram NoWant
NoValue NoValues NotEmpty Full NothingDone NoLine TooLong""".split()
FIELDS = {"NoRows": ["index"], "BadTree": ["part"], "BadSheet": ["part"], "BadRules": ["part"],
          "BadTiming": ["part"], "TooMany": ["most"], "BadText": ["line"], "Barred": ["post", "way"],
          "BadSaid": ["tick", "post"], "BadAnswer": ["post"], "NoMark": ["name"], "BadJournal": ["number"],
          "NoName": ["name"], "BadTale": ["line"], "Failed": ["line"]}
ALL = {**{name: [] for name in PLAIN}, **FIELDS}


def made(name, things):
    """An error of this name with as many of the things as it has fields."""
    return getattr(errors, name)(*things[:len(ALL[name])])


class Classes(unittest.TestCase):
    def test_just_these_classes_are_there(self):
        found = [name for name, thing in vars(errors).items() if isinstance(thing, type)]
        self.assertEqual(sorted(found), sorted(list(ALL) + ["TollError"]))
        self.assertEqual(len(ALL), 50)

    def test_bases(self):
        self.assertEqual(errors.TollError.__bases__, (ValueError,))
        for name in ALL:
            self.assertEqual(getattr(errors, name).__bases__, (errors.TollError,), name)

    def test_no_error_is_one_of_another_class(self):
        for name in ALL:
            error = made(name, [0, 1])
            kinds = [other for other in ALL if isinstance(error, getattr(errors, other))]
            self.assertEqual(kinds, [name])
            self.assertIsInstance(error, errors.TollError)
            self.assertIsInstance(error, ValueError)

    def test_defined_in_this_file(self):
        for name in ALL:
            self.assertEqual(getattr(errors, name).__module__, "sametolls.errors")


class Fields(unittest.TestCase):
    def test_just_these_fields(self):
        for name, fields in ALL.items():
            self.assertEqual(vars(made(name, [3, "x"])), dict(zip(fields, [3, "x"])), name)

    def test_whatever_is_passed_is_kept(self):
        for name, fields in FIELDS.items():
            for thing in all_odd() + [-1, 10 ** 59, [], (0, 1)]:
                error = made(name, [thing, [thing]])
                self.assertIs(getattr(error, fields[0]), thing)
                if len(fields) == 2:
                    self.assertEqual(len(getattr(error, fields[1])), 1)
                    self.assertIs(getattr(error, fields[1])[0], thing)

    def test_made_with_just_the_fields(self):
        for name, fields in FIELDS.items():
            with self.assertRaises(TypeError):
                getattr(errors, name)()
            with self.assertRaises(TypeError):
                getattr(errors, name)(*([0] * (len(fields) + 1)))

    def test_raised_and_caught_as_each_of_its_bases(self):
        for name in ALL:
            for kind in (getattr(errors, name), errors.TollError, ValueError):
                with self.assertRaises(kind):
                    raise made(name, [1, 2])

    def test_toll_error_itself(self):
        self.assertEqual(vars(errors.TollError()), {})


if __name__ == "__main__":
    unittest.main()
