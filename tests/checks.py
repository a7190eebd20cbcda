"""What several tests check in the same way."""

from copy import deepcopy
from itertools import combinations
from unittest import TestCase

from anywriting.errors import WritingError


class Case(TestCase):
    def assert_error(self, error, f, *arguments):
        """The call raises just this error and no other."""
        with self.assertRaises(WritingError) as caught:
            f(*arguments)
        self.assertIs(type(caught.exception), error, (f.__name__, arguments))
        return caught.exception

    def assert_first_error(self, f, right, wrong):
        """Of each choice of wrong arguments, triples (index, argument, error), the first one's error is raised."""
        f(*right)
        for many in range(1, len(wrong) + 1):
            for some in combinations(wrong, many):
                if len({index for index, _, _ in some}) < many:
                    continue
                arguments = list(right)
                for index, argument, _ in some:
                    arguments[index] = argument
                self.assert_error(some[0][2], f, *arguments)

    def assert_flag(self, expected, told):
        self.assertIs(told, expected)

    def assert_unchanged(self, f, *arguments):
        """The call, whether it raises an error or not, changes no argument; its answer."""
        before = deepcopy(arguments)
        try:
            return f(*arguments)
        except WritingError:
            return None
        finally:
            self.assertEqual(before, arguments)
