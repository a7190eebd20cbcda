"""What several tests check in the same way."""

from copy import deepcopy
from fractions import Fraction
from itertools import combinations
from unittest import TestCase

from anywriting.errors import OtherBase, Unsound, WritingError
from anywriting.least import is_least
from samples import BASES, drawn_number, made_by_sum, odd_things, some_writing, unsound_machine


class Case(TestCase):
    def assert_error(self, error, f, *arguments):
        """The call raises just this error and no other."""
        with self.assertRaises(WritingError) as caught:
            f(*arguments)
        self.assertIs(type(caught.exception), error, (f.__name__, arguments))
        return caught.exception

    def assert_first_error(self, f, right, wrong):
        """Of each choice of wrong arguments, triples (index, argument, error), the first one's error is raised."""
        f(*right)
        for many in range(1, len(wrong) + 1):
            for some in combinations(wrong, many):
                if len({index for index, _, _ in some}) < many:
                    continue
                arguments = list(right)
                for index, argument, _ in some:
                    arguments[index] = argument
                self.assert_error(some[0][2], f, *arguments)

    def assert_flag(self, expected, told):
        self.assertIs(told, expected)

    def assert_unchanged(self, f, *arguments):
        """The call, whether it raises an error or not, changes no argument; its answer."""
        before = deepcopy(arguments)
        try:
            return f(*arguments)
        except WritingError:
            return None
        finally:
            self.assertEqual(before, arguments)

    def assert_function(self, machine, f, rng, many=12):
        """The machine is a least one and makes what f tells, of unlike writings of drawn numbers."""
        self.assert_flag(True, is_least(machine))
        for most in [9, 60] * many + [1000]:
            x = drawn_number(rng, most)
            for _ in range(2):
                writing = some_writing(machine.base, x, rng)
                self.assertEqual(made_by_sum(machine, writing), f(x), (machine.base, x, writing))

    def assert_fractions_asked(self, error, f, *before):
        """The error is raised for everything that is no fraction, as the last argument."""
        for thing in odd_things() + [(2, 4), (0, 2), (1, 0), (1, -2), (-1, -2), (True, 1), (1, True), [1, 2], "1/2", 1]:
            if not is_fraction_of_the_document(thing):
                self.assert_error(error, f, *before, thing)
        self.assertNotIsInstance(f(*before, (0, 1)), WritingError)

    def assert_two_machines_asked(self, f, right):
        """OtherBase, then Unsound of the first and of the second machine."""
        wrong = unsound_machine()
        for base in BASES:
            if base != 2:
                self.assert_error(OtherBase, f, right(2), right(base))
                self.assert_error(OtherBase, f, wrong, right(base))
                self.assert_error(OtherBase, f, right(base), wrong)
        self.assert_error(Unsound, f, wrong, right(2))
        self.assert_error(Unsound, f, right(2), wrong)
        self.assert_error(Unsound, f, wrong, wrong)


def is_fraction_of_the_document(thing):
    """As 1.1 says: a pair of integers in lowest terms, the bottom above 0."""
    if type(thing) is not tuple or [type(item) for item in thing] != [int, int]:
        return False
    return thing[1] > 0 and Fraction(*thing).denominator == thing[1]
