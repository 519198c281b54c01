"""The interface: each name is defined in its file, with its arguments by their names."""

import inspect
import unittest

from enoughheard import numbers, protocols

FUNCTIONS = (
    (numbers, "bound_value", ("bound", "numbers")),
    (numbers, "require_resilience", ("value",)),
    (numbers, "fits", ("resilience", "numbers")),
    (numbers, "with_factor", ("resilience", "m")),
    (protocols, "require_protocol", ("value",)),
    (protocols, "conditions_of", ("protocol",)),
)


class Interface(unittest.TestCase):
    def test_functions_are_defined_in_their_files(self):
        for module, name, _ in FUNCTIONS:
            with self.subTest(name):
                self.assertEqual(getattr(module, name).__module__, module.__name__)

    def test_arguments_have_their_names_and_no_defaults(self):
        for module, name, arguments in FUNCTIONS:
            with self.subTest(name):
                found = inspect.signature(getattr(module, name)).parameters
                self.assertEqual(tuple(found), arguments)
                for parameter in found.values():
                    self.assertEqual(parameter.kind, parameter.POSITIONAL_OR_KEYWORD)
                    self.assertEqual(parameter.default, parameter.empty)


if __name__ == "__main__":
    unittest.main()
