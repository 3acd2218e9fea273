"""What the tests have in common."""

import copy
import unittest


def shape(value):
    """The value together with the exact kinds of all its parts, the order of dicts included."""
    if type(value) in (list, tuple):
        return type(value).__name__, [shape(part) for part in value]
    if type(value) is dict:
        return "dict", [(shape(key), shape(part)) for key, part in value.items()]
    return type(value).__name__, value


class Case(unittest.TestCase):
    """Checks answers and errors together with what point [4] says of all calls."""

    def assert_same(self, found, wanted):
        """Equal values of the very same kinds: True is not 1, a tuple is not a list."""
        self.assertEqual(shape(found), shape(wanted))

    def assert_answer(self, wanted, call, *args, **more):
        """The call gives this answer, anew each time, and changes no argument."""
        passed = copy.deepcopy((args, more))
        first = call(*args, **more)
        self.assert_same(first, wanted)
        if type(first) in (list, dict):
            first.clear()
        second = call(*args, **more)
        self.assert_same(second, wanted)
        if type(first) in (list, dict):
            self.assertIsNot(first, second)
        self.assert_same((args, more), passed)

    def assert_error(self, error, attributes, call, *args, **more):
        """The call raises exactly this error with these attributes, and changes nothing."""
        passed = copy.deepcopy((args, more))
        for _ in range(2):
            with self.assertRaises(error) as caught:
                call(*args, **more)
            self.assertIs(type(caught.exception), error)
            found = {name: getattr(caught.exception, name) for name in attributes}
            self.assert_same(found, attributes)
        self.assert_same((args, more), passed)
