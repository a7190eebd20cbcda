"""Functions of strangers: 8.2."""

from fractions import Fraction
from functools import lru_cache
from random import Random
from unittest import main

from anywriting.errors import BadAnswer, NoBase, NoFit, NoMany, NothingDone
from anywriting.least import is_least
from anywriting.machines import Machine
from anywriting.readers import Reader
from anywriting.strangers import known
from checks import Case, is_fraction_of_the_document
from dust_samples import cantor
from samples import (
    BASES, TooManyStates, absolute_machine, crowded, deep, drawn_broken, drawn_number, dust_distance, frac, learned,
    made_by_sum, odd_things, pair, some_writing, sound_machines, straight,
)


class Asked:
    """A stranger that keeps what it was called with."""

    def __init__(self, f):
        self.f = f
        self.numbers = []

    def call(self, x):
        self.numbers.append(x)
        return pair(self.f(frac(x)))


class OwnError(Exception):
    pass


@lru_cache(maxsize=None)
def small_functions(base):
    """Pairs of a function and its least machine, of one to four states, of many shapes."""
    rng = Random(base)
    found = [(f, machine) for seed in range(2) for f, machine in sound_machines(base, seed)]
    found += [(f, machine) for _, f, machine in crowded(base)]
    for slope in [Fraction(0), Fraction(1, 2), Fraction(1, 3), Fraction(-2, 3), Fraction(1, base), Fraction(1, base + 1), Fraction(30)]:
        for height in (Fraction(0), Fraction(1, base), Fraction(-5, base + 1), Fraction(2, 3), Fraction(-7)):
            try:
                found.append((straight(slope, height), learned(base, straight(slope, height))))
            except TooManyStates:
                continue
    for _ in range(6):
        _, machine = drawn_broken(base, rng, 5)
        found.append((lambda x, machine=machine: made_by_sum(machine, some_writing(base, x, Random(1))), machine))
    return [(f, machine) for f, machine in found if len(machine.rows) <= 4]


class Known(Case):
    def test_functions_of_one_to_four_states(self):
        for base in BASES:
            rng = Random(base)
            met = set()
            for f, machine in small_functions(base):
                many = len(machine.rows)
                for most in sorted({many, rng.randrange(many, 5)}):
                    asked = Asked(f)
                    told = known(base, asked.call, most)
                    self.assertEqual(told, machine)
                    self.assert_flag(True, is_least(told))
                    for x in asked.numbers:
                        self.assertTrue(is_fraction_of_the_document(x) and abs(frac(x)) <= 1)
                    met.add((many, most))
                for x in [drawn_number(rng, 50) for _ in range(4)]:
                    self.assertEqual(made_by_sum(machine, some_writing(base, x, rng)), f(x))
            self.assertEqual(met, {(many, most) for many in range(1, 5) for most in range(many, 5)})

    def test_functions_of_more_states(self):
        for base in BASES:
            functions = [(f, machine) for f, machine in sound_machines(base) if len(machine.rows) > 1]
            for f, machine in functions:
                for most in range(1, min(5, len(machine.rows))):
                    self.assert_whichever(base, Asked(f).call, most)

    def assert_whichever(self, base, stranger, most):
        """A least machine of at most so many states, or NoFit."""
        try:
            machine = known(base, stranger, most)
        except NoFit:
            return None
        self.assert_flag(True, is_least(machine))
        self.assertLessEqual(len(machine.rows), most)
        return machine

    def test_other_functions(self):
        for base in BASES:
            for most in range(1, 5):
                for f in (
                    lambda x: x * x, lambda x: x ** 3 - x, lambda x: Fraction(x.denominator), lambda x: 1 / (x + 2),
                    lambda x: Fraction(0) if x < 1 else Fraction(1), lambda x: 10 ** 30 * x * x, lambda x: x if x > 0 else 2 * x * x,
                    lambda x: Fraction(x > 0), lambda x: Fraction(x.numerator, 7),
                ):
                    self.assert_whichever(base, Asked(f).call, most)
            self.assert_error(NoFit, known, base, Asked(lambda x: x * x).call, 4)
            self.assert_error(NoFit, known, base, Asked(lambda x: Fraction(x.denominator)).call, 4)

    def test_as_it_must_be_at_all_numbers_that_were_asked(self):
        for base in BASES:
            for f, machine in small_functions(base)[::5]:
                asked = Asked(f)
                known(base, asked.call, 4)
                numbers = set(asked.numbers)
                other = Asked(lambda x: f(x) if pair(x) in numbers else x * x + 100)
                self.assertEqual(known(base, other.call, 4), machine)

    def test_bad_answers(self):
        wrong = [thing for thing in odd_things() if not is_fraction_of_the_document(thing)]
        wrong += [(2, 4), (1, -2), [1, 2], "1/2", 1, (True, 1), (1, True), (0, 2), None, Fraction(1, 2).numerator, deep((1, 2), 38)]
        wrong += [cantor(2, 0), Reader(absolute_machine())]
        for base in BASES:
            for answer in wrong:
                error = self.assert_error(BadAnswer, known, base, lambda x: answer, 2)
                self.assertTrue(is_fraction_of_the_document(error.x) and abs(frac(error.x)) <= 1)
            for bad in (lambda x: x == 0, lambda x: x > 0, lambda x: x < Fraction(-1, 2), lambda x: x.denominator == base):
                error = self.assert_error(BadAnswer, known, base, lambda x: None if bad(frac(x)) else x, 3)
                self.assertTrue(bad(frac(error.x)))
                self.assertTrue(is_fraction_of_the_document(error.x))

    def test_the_errors_of_the_stranger_go_on(self):
        def raising(error):
            def ask(x):
                if frac(x) != 0:
                    raise error
                return (0, 1)
            return ask

        for error in (OwnError("no"), ValueError("own"), KeyError(3), ZeroDivisionError(), NothingDone(), NoFit(), RuntimeError()):
            with self.assertRaises(type(error)) as caught:
                known(3, raising(error), 2)
            self.assertIs(caught.exception, error)

    def test_wrong_arguments(self):
        asked = Asked(lambda x: x)
        right = (1, 2, 3, 4)
        odd = odd_things() + [0, 5, -1, 6, 10 ** 30, True, False, "2", (2,), [2], deep(2, 39), cantor(2, 0), Reader(absolute_machine())]
        for thing in odd:
            if not (type(thing) is int and 2 <= thing <= 5):
                self.assert_error(NoBase, known, thing, asked.call, 2)
                self.assert_error(NoBase, known, thing, asked.call, thing)
                self.assert_error(NoBase, known, thing, None, 9)
            if not (type(thing) is int and thing in right):
                for base in BASES:
                    self.assert_error(NoMany, known, base, asked.call, thing)
        self.assertEqual(asked.numbers, [])
        for base in BASES:
            for most in right:
                self.assertIs(type(known(base, asked.call, most)), Machine)

    def test_how_far_from_a_dust(self):
        # Of four states: beside the dust a line up and a line down.
        for base, digits in ((3, (-2, 2)), (4, (-3, 3)), (5, (-4, 0, 4))):
            f = dust_distance(base, digits)
            machine = learned(base, f)
            if len(machine.rows) <= 4:
                self.assertEqual(known(base, Asked(f).call, 4), machine)
            else:
                self.assert_whichever(base, Asked(f).call, 4)


if __name__ == "__main__":
    main()
