"""Functions added, times a fraction, raised and mirrored: 5.1."""

from fractions import Fraction
from random import Random
from unittest import main

from anywriting.errors import NoFraction, TooMany, Unsound
from anywriting.least import are_alike, is_least, least, left, lined
from anywriting.machines import Machine
from anywriting.sums import added, mirrored, raised, times
from checks import Case
from samples import added as all_pairs
from samples import (
    BASES, absolute_machine, broken, crowded, drawn_broken, drawn_writing, joined, learned, lifted, made_by_sum, pair,
    retold, saw, sound_machines, straight, unsound_machine,
)

FACTORS = [Fraction(0), Fraction(1), Fraction(-1), Fraction(2), Fraction(-7), Fraction(10 ** 8 + 7), Fraction(-10 ** 9 + 1)]
FACTORS += [Fraction(1, 2), Fraction(-1, 3), Fraction(7, 30), Fraction(-29, 30), Fraction(10 ** 8 + 1, 7), Fraction(3, 25)]


def parts_of_line(base, one, other):
    """The line of slope 1, so many times parted."""
    return times(times(lined(base, (1, 1), (0, 1)), (1, one)), (1, other))


def big_unsound(base):
    """A line of 400 states and, where nothing leads to, one that is not sound."""
    bad = Machine(base, 0, (tuple([(digit * digit, 0) for digit in range(1 - base, base)]),))
    return joined(parts_of_line(base, 20, 20), bad)


class Added(Case):
    def test_functions_added(self):
        for base in BASES:
            rng = Random(base)
            chosen = sound_machines(base)
            for f, one in chosen:
                for g, other in rng.sample(chosen, 2):
                    found = added(retold(one, rng), retold(other, rng))
                    self.assert_function(found, lambda x: f(x) + g(x), rng, 4)
                    self.assertEqual(found, added(other, one))
                    self.assertEqual(found, least(all_pairs(one, other)))

    def test_the_same_machine_twice_and_told_otherwise(self):
        for base in BASES:
            rng = Random(base)
            for _, machine in sound_machines(base, 1):
                twice = added(machine, machine)
                self.assertEqual(twice, times(machine, (2, 1)))
                self.assertEqual(twice, added(machine, retold(machine, rng)))
                self.assertEqual(twice, added(retold(machine, rng), machine))

    def test_what_is_known_before(self):
        for base in BASES:
            rng = Random(base)
            for _ in range(3):
                points, one = drawn_broken(base, rng)
                teeth = saw(base, 1, 2)
                found = added(one, learned(base, teeth))
                below = broken(points)
                self.assertEqual(found, learned(base, lambda x: below(x) + teeth(x), 400))

    def test_a_machine_and_less_it_make_nothing(self):
        for base in BASES:
            for _, machine in sound_machines(base, 2):
                nothing = added(machine, times(machine, (-1, 1)))
                self.assertEqual(nothing, lined(base, (0, 1), (0, 1)))

    def test_nothing_is_changed(self):
        v = absolute_machine()
        found = self.assert_unchanged(added, v, v)
        self.assertEqual(found, added(v, v))
        self.assert_unchanged(added, v, unsound_machine())


class Times(Case):
    def test_functions_times_a_fraction(self):
        for base in BASES:
            rng = Random(base)
            for f, machine in sound_machines(base):
                for factor in rng.sample(FACTORS, 4):
                    try:
                        found = times(retold(machine, rng), pair(factor))
                    except TooMany:
                        self.assertGreater(len(machine.rows) * factor.denominator, 400)
                        continue
                    self.assert_function(found, lambda x: factor * f(x), rng, 3)

    def test_by_1_0_and_back(self):
        for base in BASES:
            rng = Random(base)
            for _, machine in sound_machines(base, 1):
                self.assertEqual(times(retold(machine, rng), (1, 1)), least(machine))
                self.assertEqual(times(machine, (0, 1)), lined(base, (0, 1), (0, 1)))
                for top, bottom in ((2, 3), (-5, 1), (-1, 30), (10 ** 9 - 1, 1)):
                    back = (bottom, top) if top > 0 else (-bottom, -top)
                    if len(machine.rows) * bottom <= 400 and abs(top) <= 30:
                        self.assertEqual(times(times(machine, (top, bottom)), back), least(machine))

    def test_lines(self):
        for base in BASES:
            for slope, height, factor in (((3, 7), (1, 2), (5, 11)), ((-4, 1), (9, 5), (-1, 9)), ((1, 30), (0, 1), (30, 1))):
                one = Fraction(*slope) * Fraction(*factor)
                other = Fraction(*height) * Fraction(*factor)
                found = times(lined(base, slope, height), factor)
                self.assertEqual(found, lined(base, pair(one), pair(other)))


class Raised(Case):
    def test_functions_raised(self):
        for base in BASES:
            rng = Random(base)
            for f, machine in sound_machines(base):
                for height in rng.sample(FACTORS, 4):
                    try:
                        found = raised(retold(machine, rng), pair(height))
                    except TooMany:
                        self.assertGreater(len(machine.rows) * height.denominator, 400)
                        continue
                    self.assert_function(found, lambda x: f(x) + height, rng, 3)
                    self.assertEqual(raised(found, pair(-height)), least(machine))

    def test_by_an_integer_the_first_alone_is_otherwise(self):
        for base in BASES:
            for _, machine in sound_machines(base, 1):
                for height in (0, 1, -1, 17, -10 ** 9 + 1):
                    below = least(machine)
                    self.assertEqual(raised(machine, (height, 1)), Machine(base, below.first + height, below.rows))

    def test_raising_is_adding_a_line_of_slope_0(self):
        for base in BASES:
            for _, machine in sound_machines(base, 1):
                for height in ((1, 2), (-5, 3)):
                    self.assertEqual(raised(machine, height), added(machine, lined(base, (0, 1), height)))


class Mirrored(Case):
    def test_mirrored_functions(self):
        for base in BASES:
            rng = Random(base)
            for f, machine in sound_machines(base):
                found = mirrored(retold(machine, rng))
                self.assert_function(found, lambda x: f(-x), rng, 4)
                self.assertEqual(mirrored(found), least(machine))

    def test_writings_with_all_digits_turned_about(self):
        for base in BASES:
            rng = Random(base)
            for _, machine in sound_machines(base, 1):
                found = mirrored(machine)
                for _ in range(5):
                    ahead, again = drawn_writing(base, rng)
                    turned = (tuple([-d for d in ahead]), tuple([-d for d in again]))
                    self.assertEqual(made_by_sum(found, turned), made_by_sum(machine, (ahead, again)))

    def test_more_than_400_states(self):
        # As many states as a line to the base 2 has whose parts are 401, told without the bound.
        bottom = 401
        rows = []
        for top in range(bottom):
            row = [divmod(digit + 2 * top, bottom) for digit in (-1, 0, 1)]
            rows.append(tuple(row))
        line = Machine(2, 0, tuple(rows))
        self.assertEqual(left(line), 401)
        self.assertEqual(self.assert_error(TooMany, mirrored, line).most, 400)


class ManyStates(Case):
    def test_just_400_states_and_some_more(self):
        for base in BASES:
            line = parts_of_line(base, 20, 20)
            self.assertEqual(left(line), 400)
            self.assert_function(line, straight(Fraction(1, 400), 0), Random(base), 3)
            self.assertEqual(left(mirrored(line)), 400)
            self.assertEqual(left(raised(line, (7, 1))), 400)
            self.assertEqual(left(times(line, (-3, 1))), 400)
            self.assertEqual(left(added(line, line)), 200)
            half = lined(base, (1, 15), (0, 1))
            self.assertEqual(left(half), 15)
            self.assertEqual(self.assert_error(TooMany, times, half, (1, 27)).most, 400)
            self.assertEqual(left(times(half, (1, 26))), 390)
            self.assertEqual(self.assert_error(TooMany, times, line, (1, 2)).most, 400)

    def test_raised_beyond_400_states(self):
        for base in BASES:
            line = lined(base, (1, 29), (0, 1))
            self.assertEqual(left(raised(line, (1, 29))), 29)
            self.assert_error(TooMany, raised, parts_of_line(base, 20, 20), (1, 29))

    def test_a_ring_of_1260_pairs(self):
        for base in BASES:
            one = lined(base, (1, 35), (0, 1))
            other = lined(base, (1, 36), (0, 1))
            self.assertEqual((left(one), left(other)), (35, 36))
            self.assertEqual(self.assert_error(TooMany, added, one, other).most, 400)

    def test_many_pairs_met_but_few_states(self):
        for base in BASES:
            one = lined(base, (1, 19), (1, 17))
            other = lined(base, (-1, 19), (1, 13))
            height = Fraction(1, 17) + Fraction(1, 13)
            self.assertEqual(added(one, other), lined(base, (0, 1), pair(height)))
            line = parts_of_line(base, 20, 20)
            self.assertEqual(added(line, times(line, (-1, 1))), lined(base, (0, 1), (0, 1)))


class Alike(Case):
    def test_alike_machines_tell_the_same(self):
        for base in BASES:
            rng = Random(base)
            for _, machine in sound_machines(base, 3):
                again = retold(machine, rng)
                self.assert_flag(True, are_alike(machine, again))
                self.assertEqual(times(machine, (2, 3)), times(again, (2, 3)))
                self.assertEqual(raised(machine, (2, 3)), raised(again, (2, 3)))
                self.assertEqual(mirrored(machine), mirrored(again))

    def test_integers_put_from_state_to_state(self):
        v = absolute_machine()
        other = lifted(v, [10 ** 11, -10 ** 11, 5])
        for f, rest in ((added, (v,)), (times, ((-7, 30),)), (raised, ((1, 30),)), (mirrored, ())):
            self.assertEqual(f(v, *rest), f(other, *rest))
            self.assert_flag(True, is_least(f(other, *rest)))


class Errors(Case):
    def test_added(self):
        self.assert_two_machines_asked(added, lambda base: lined(base, (1, 2), (0, 1)))

    def test_unsound_ahead_of_no_fraction(self):
        for f in (times, raised):
            self.assert_error(Unsound, f, unsound_machine(), (1, 2))
            self.assert_error(Unsound, f, unsound_machine(), (2, 4))
            self.assert_error(Unsound, f, unsound_machine(), None)
        self.assert_error(Unsound, mirrored, unsound_machine())

    def test_no_fraction(self):
        for f in (times, raised):
            self.assert_fractions_asked(NoFraction, f, absolute_machine())
            self.assert_fractions_asked(NoFraction, f, crowded(3)[0][2])

    def test_all_ahead_of_too_many(self):
        for base in BASES:
            bad = big_unsound(base)
            line = parts_of_line(base, 20, 20)
            self.assert_error(Unsound, times, bad, (1, 2))
            self.assert_error(Unsound, raised, bad, (1, 29))
            self.assert_error(Unsound, added, line, bad)
            self.assert_error(Unsound, mirrored, bad)
            self.assert_error(NoFraction, times, line, (2, 4))
            self.assert_error(NoFraction, raised, line, [1, 29])
            self.assert_error(TooMany, times, line, (1, 2))


if __name__ == "__main__":
    main()
