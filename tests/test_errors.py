"""The errors of the interface (enoughheard/errors.py)."""

import inspect
import unittest

from enoughheard import errors
from tests.helpers import BIG, deep

CLASSES = (
    ("InvalidResilience", ValueError, ("index",)),
    ("InvalidProtocol", ValueError, ("part",)),
    ("InvalidSituation", ValueError, ("index",)),
    ("InvalidOptions", ValueError, ("index",)),
    ("InvalidNumbers", ValueError, ()),
    ("InvalidStarts", ValueError, ("index",)),
    ("InvalidClaim", ValueError, ()),
    ("ParseError", ValueError, ("line",)),
    ("UnknownMember", LookupError, ("value",)),
    ("CannotTake", RuntimeError, ("index",)),
    ("CannotAct", RuntimeError, ()),
    ("CannotDeliver", RuntimeError, ()),
    ("Refused", RuntimeError, ("index", "reason")),
    ("NothingDone", RuntimeError, ()),
    ("LimitExceeded", OverflowError, ("limit",)),
)
ANY_VALUES = (None, 0, -1, BIG, True, False, "", "rule", (), ("rule", 3), [], [1, [2]],
              {}, {"a": [1]}, deep(3000))


class ErrorClasses(unittest.TestCase):
    def test_each_is_a_direct_subclass_of_the_named_error_alone(self):
        for name, base, _ in CLASSES:
            with self.subTest(name):
                self.assertEqual(getattr(errors, name).__bases__, (base,))

    def test_the_module_has_these_and_no_others(self):
        found = [name for name, value in vars(errors).items() if inspect.isclass(value)]
        self.assertEqual(sorted(found), sorted(name for name, _, _ in CLASSES))

    def test_each_is_defined_in_the_module(self):
        for name, _, _ in CLASSES:
            self.assertEqual(getattr(errors, name).__module__, "enoughheard.errors")

    def test_arguments_by_position_are_kept_whatever_they_are(self):
        for name, _, arguments in CLASSES:
            for value in ANY_VALUES:
                passed = [value] + ["other"] * (len(arguments) - 1)
                error = getattr(errors, name)(*passed[:len(arguments)])
                for argument, one in zip(arguments, passed):
                    self.assertIs(getattr(error, argument), one)

    def test_arguments_by_name_are_kept_whatever_they_are(self):
        for name, _, arguments in CLASSES:
            for value in ANY_VALUES:
                passed = {argument: value for argument in arguments}
                error = getattr(errors, name)(**passed)
                for argument in arguments:
                    self.assertIs(getattr(error, argument), value)

    def test_names_in_any_order(self):
        error = errors.Refused(reason="CannotAct", index=4)
        self.assertEqual((error.index, error.reason), (4, "CannotAct"))
        error = errors.Refused(-1, reason=None)
        self.assertEqual((error.index, error.reason), (-1, None))

    def test_those_without_arguments_take_none(self):
        for name, _, arguments in CLASSES:
            if not arguments:
                with self.subTest(name):
                    getattr(errors, name)()
                    self.assertRaises(TypeError, getattr(errors, name), 1)
                    self.assertRaises(TypeError, lambda: getattr(errors, name)(index=1))

    def test_the_others_take_as_many_as_told(self):
        for name, _, arguments in CLASSES:
            if arguments:
                with self.subTest(name):
                    self.assertRaises(TypeError, getattr(errors, name))
                    self.assertRaises(TypeError, getattr(errors, name), *range(len(arguments) + 1))

    def test_each_is_raised_and_caught_by_the_named_error(self):
        for name, base, arguments in CLASSES:
            with self.subTest(name), self.assertRaises(base):
                raise getattr(errors, name)(*arguments)


if __name__ == "__main__":
    unittest.main()
