"""What the test cases share."""

import unittest

from samples import same_kind


class Checking(unittest.TestCase):

    def assert_same(self, found, expected):
        """Equal, and of the same kinds: True is not 1, and a list is no tuple."""
        self.assertTrue(same_kind(found, expected), f"{shown(found)} is not {shown(expected)}")

    def assert_raises_exactly(self, kind, function, *given):
        """The class itself is raised, none derived from it, and the arguments are as they were."""
        before = parts_of(given)
        with self.assertRaises(kind) as caught:
            function(*given)
        self.assertIs(type(caught.exception), kind)
        self.assertEqual(parts_of(given), before)

    def assert_unchanged(self, function, *given):
        """Called twice, the function returns equal results, and leaves its arguments as they were."""
        before = parts_of(given)
        first = function(*given)
        self.assert_same(function(*given), first)
        self.assertEqual(parts_of(given), before)


def parts_of(thing):
    """All parts of a value, with their kinds; integers as such, since Python does not write out huge ones."""
    if isinstance(thing, (tuple, list)):
        return (type(thing), [parts_of(part) for part in thing])
    if isinstance(thing, dict):
        return (dict, [(parts_of(key), parts_of(thing[key])) for key in thing])
    if isinstance(thing, BaseException):
        return (type(thing), thing.args, dict(vars(thing)))
    if type(thing).__module__.startswith("rolluplevels."):
        return (type(thing), parts_of(vars(thing)))
    return (type(thing), thing)


def shown(thing):
    """The value as a failed test shows it, also where it holds integers that Python does not write out."""
    try:
        return repr(thing)[:300]
    except ValueError:
        return "a value with a huge integer"
