"""One function put into another: 5.2."""

from fractions import Fraction
from random import Random
from unittest import main

from anywriting.errors import NotWithin, OtherBase, TooMany, Unsound
from anywriting.greater import amount
from anywriting.inner import put_in
from anywriting.least import least, left, lined, zoom
from anywriting.machines import Machine
from anywriting.soundness import value
from anywriting.sums import added, mirrored, raised, times
from checks import Case
from samples import (
    BASES, TooManyStates, broken, bumps, crowded, drawn_broken, dust_distance, frac, joined, learned, pair, retold,
    saw, sound_machines, straight, unsound_machine,
)


def drawn_inner(base, rng):
    """A broken line with heights from -1 to 1, some of them just these, and its least machine."""
    while True:
        ends = {Fraction(-1), Fraction(1)}
        for _ in range(rng.randrange(4)):
            bottom = rng.choice([base, base * base, base - 1, base + 1])
            ends.add(Fraction(rng.randrange(-bottom, bottom + 1), bottom))
        points = []
        for end in sorted(ends):
            bottom = rng.choice([1, 1, 1, 2, base])
            points.append((end, Fraction(rng.randrange(-bottom, bottom + 1), bottom)))
        try:
            return broken(points), learned(base, broken(points), 40)
        except TooManyStates:
            continue


def flat(base, height):
    return lined(base, (0, 1), pair(height))


class PutIn(Case):
    def test_broken_lines_in_all_functions(self):
        for base in BASES:
            rng = Random(base)
            for f, outer in sound_machines(base):
                g, inner = drawn_inner(base, rng)
                found = put_in(retold(outer, rng), retold(inner, rng))
                self.assert_function(found, lambda x: f(g(x)), rng, 4)
                self.assertEqual(found, put_in(outer, inner))

    def test_broken_lines_in_broken_lines_that_are_known(self):
        for base in (2, 3):
            rng = Random(20 + base)
            for _ in range(4):
                points, outer = drawn_broken(base, rng)
                f = broken(points)
                g, inner = drawn_inner(base, rng)
                try:
                    known = learned(base, lambda x: f(g(x)), 120)
                except TooManyStates:
                    continue
                self.assertEqual(put_in(outer, inner), known)

    def test_functions_bent_at_ever_nearer_places(self):
        for base in BASES:
            rng = Random(base)
            for name, g, inner in crowded(base):
                bottom = max(1, *[-(-abs(g(Fraction(k, 720))) // 1) for k in range(-720, 721)])
                low = times(inner, (1, int(bottom)))
                for f, outer in rng.sample(sound_machines(base), 2) + [(g, inner)]:
                    self.assert_function(put_in(outer, low), lambda x: f(g(x) / bottom), rng, 4)

    def test_lines_in_lines(self):
        for base in BASES:
            for slope, height in (((1, 2), (1, 2)), ((-1, 1), (0, 1)), ((1, 3), (-2, 3)), ((0, 1), (5, 7))):
                for above, rise in (((400, 1), (1, 3)), ((-1, 5), (2, 1)), ((3, 1), (0, 1))):
                    found = put_in(lined(base, above, rise), lined(base, slope, height))
                    steep = frac(above) * frac(slope)
                    high = frac(above) * frac(height) + frac(rise)
                    self.assertEqual(found, lined(base, pair(steep), pair(high)))

    def test_inner_ones_of_one_height(self):
        for base in BASES:
            rng = Random(base)
            for f, outer in sound_machines(base):
                for height in (-1, 1, 0, Fraction(1, base), Fraction(-1, base * base), Fraction(2, 7), Fraction(-17, 30)):
                    found = put_in(outer, retold(flat(base, height), rng))
                    self.assertEqual(found, flat(base, f(Fraction(height))))
                    self.assertEqual(value(outer, pair(height)), value(found, (1, 3)))

    def test_inner_ones_that_touch_both_ends(self):
        for base in BASES:
            rng = Random(base)
            there = broken([(Fraction(-1), Fraction(1)), (Fraction(0), Fraction(-1)), (Fraction(1), Fraction(1))])
            high = broken([(Fraction(-1), Fraction(1)), (Fraction(1, base), Fraction(1)), (Fraction(1), Fraction(0))])
            low = broken([(Fraction(-1), Fraction(-1)), (Fraction(1, 2), Fraction(-1)), (Fraction(1), Fraction(0))])
            for g in (there, high, low):
                inner = learned(base, g, 60)
                for f, outer in rng.sample(sound_machines(base), 4):
                    self.assert_function(put_in(outer, inner), lambda x: f(g(x)), rng, 4)

    def test_the_line_of_slope_1_changes_nothing(self):
        for base in BASES:
            rng = Random(base)
            line = lined(base, (1, 1), (0, 1))
            for _, machine in sound_machines(base):
                self.assertEqual(put_in(retold(machine, rng), line), least(machine))
                self.assertEqual(put_in(machine, lined(base, (-1, 1), (0, 1))), mirrored(machine))
            for _ in range(3):
                _, inner = drawn_inner(base, rng)
                self.assertEqual(put_in(line, retold(inner, rng)), inner)
                self.assertEqual(put_in(amount(line), inner), amount(inner))

    def test_a_part_of_a_zoom(self):
        for base in BASES:
            for _, machine in sound_machines(base):
                for digit in (1 - base, 0, 1):
                    part = put_in(machine, lined(base, (1, base), pair(Fraction(digit, base))))
                    self.assertEqual(times(part, (base, 1)), zoom(machine, (digit,)))

    def test_three_put_in_one_another(self):
        for base in BASES:
            rng = Random(base)
            told = 0
            while told < 4:
                f, outer = rng.choice(sound_machines(base))
                g, middle = drawn_inner(base, rng)
                h, inner = drawn_inner(base, rng)
                try:
                    found = put_in(outer, put_in(middle, inner))
                    other = put_in(put_in(outer, middle), inner)
                except TooMany:
                    continue
                told += 1
                self.assertEqual(found, other)
                self.assert_function(found, lambda x: f(g(h(x))), rng, 3)

    def test_sums_are_put_in_part_by_part(self):
        for base in BASES:
            rng = Random(base)
            _, inner = drawn_inner(base, rng)
            (_, one), (_, other) = rng.sample(sound_machines(base), 2)
            self.assertEqual(put_in(added(one, other), inner), added(put_in(one, inner), put_in(other, inner)))

    def test_steepest_up_to_400(self):
        for base in BASES:
            rng = Random(base)
            depth = {2: 7, 3: 4, 4: 3, 5: 3}[base]
            teeth = saw(base, depth, 2 * base ** depth)

            def inner_at(x):
                return 2 * teeth(x) - 1 if x > -1 else Fraction(-1)
            inner = learned(base, inner_at, 100)
            steep = lined(base, (400, 1), (-1, 3))
            self.assert_function(put_in(amount(steep), inner), lambda x: abs(400 * inner_at(x) - Fraction(1, 3)), rng, 4)
            for f, outer in rng.sample(sound_machines(base), 4):
                self.assert_function(put_in(outer, inner), lambda x: f(inner_at(x)), rng, 4)


class Within(Case):
    def assert_not_within(self, inner, g):
        for outer in (lined(inner.base, (1, 1), (0, 1)), lined(inner.base, (0, 1), (0, 1)), inner):
            x = self.assert_error(NotWithin, put_in, outer, inner).x
            self.assertGreater(abs(g(frac(x))), 1)
            self.assertLessEqual(abs(frac(x)), 1)
            self.assertEqual(pair(frac(x)), x)

    def test_lines_that_go_beyond(self):
        for base in BASES:
            lines = [((2, 1), (0, 1)), ((1, 1), (1, 30)), ((-1, 1), (-1, 30)), ((31, 30), (0, 1)), ((0, 1), (31, 30))]
            lines += [((0, 1), (-2, 1)), ((400, 1), (0, 1)), ((1, 2), (17, 30)), ((-30, 29), (0, 1)), ((0, 1), (10 ** 9, 1))]
            for slope, height in lines:
                if slope[1] * height[1] <= 400:
                    self.assert_not_within(lined(base, slope, height), straight(frac(slope), frac(height)))

    def test_beyond_by_very_little(self):
        for base in BASES:
            little = Fraction(1, base ** 9)
            for side in (1, -1):
                height = side + side * little
                machine = flat(base, 0)
                for item in range(9):
                    machine = times(machine, (1, base))
                machine = flat(base, side)
                part = flat(base, side)
                for _ in range(9):
                    part = times(part, (1, base))
                self.assert_not_within(added(machine, part), lambda x: height)
                below = added(machine, times(part, (-1, 1)))
                line = lined(base, (1, 1), (0, 1))
                self.assertEqual(put_in(line, below), below)

    def test_only_at_an_end(self):
        for base in BASES:
            for side in (1, -1):
                g = broken([(Fraction(-1), Fraction(0)), (Fraction(0), Fraction(-side)), (Fraction(1), Fraction(9, 8) * side)])
                inner = learned(base, g, 100)
                self.assert_not_within(inner, g)
                self.assert_not_within(mirrored(inner), lambda x: g(-x))

    def test_only_between(self):
        for base in BASES:
            for side in (1, -1):
                tip = Fraction(1, base + 1)
                g = broken([(Fraction(-1), Fraction(0)), (tip, side * Fraction(21, 20)), (Fraction(1), Fraction(0))])
                self.assert_not_within(learned(base, g, 400), g)

    def test_bumps_beyond(self):
        for base in BASES:
            near = bumps(base)
            top = near(Fraction(base + 1, 2 * base))
            inner = learned(base, near)
            scaled = times(inner, pair(1 / top))
            self.assertEqual(value(put_in(lined(base, (1, 1), (0, 1)), scaled), pair(Fraction(base + 1, 2 * base))), (1, 1))
            over = raised(scaled, (1, 30))
            self.assert_not_within(over, lambda x: near(x) / top + Fraction(1, 30))
        f = dust_distance(3, (-2, 0))
        self.assert_not_within(times(learned(3, f), (5, 4)), lambda x: f(x) * Fraction(5, 4))


class ManyStates(Case):
    def test_lines_of_400_and_405_states(self):
        for base in BASES:
            self.assertEqual(left(put_in(lined(base, (1, 20), (0, 1)), lined(base, (1, 20), (0, 1)))), 400)
            error = self.assert_error(TooMany, put_in, lined(base, (1, 27), (0, 1)), lined(base, (1, 15), (0, 1)))
            self.assertEqual(error.most, 400)
            big = put_in(lined(base, (1, 20), (0, 1)), lined(base, (1, 20), (0, 1)))
            self.assertEqual(put_in(big, lined(base, (-1, 1), (0, 1))), mirrored(big))
            self.assertEqual(put_in(lined(base, (2, 1), (0, 1)), big), times(big, (2, 1)))
            self.assert_error(TooMany, put_in, big, lined(base, (1, 2), (0, 1)))
            self.assert_error(TooMany, put_in, big, big)

    def test_few_states_of_many(self):
        for base in BASES:
            big = put_in(lined(base, (1, 20), (0, 1)), lined(base, (1, 20), (0, 1)))
            self.assertEqual(put_in(flat(base, Fraction(1, 7)), big), flat(base, Fraction(1, 7)))
            self.assertEqual(put_in(big, flat(base, 1)), flat(base, Fraction(1, 400)))


class Errors(Case):
    def test_two_machines(self):
        self.assert_two_machines_asked(put_in, lambda base: lined(base, (1, 2), (0, 1)))

    def test_the_order(self):
        bad = unsound_machine()
        wide = lined(2, (2, 1), (0, 1))
        self.assert_error(OtherBase, put_in, lined(3, (1, 1), (0, 1)), wide)
        self.assert_error(OtherBase, put_in, lined(3, (1, 1), (0, 1)), joined(wide, bad))
        self.assert_error(Unsound, put_in, bad, wide)
        self.assert_error(Unsound, put_in, wide, joined(wide, bad))
        self.assert_error(Unsound, put_in, wide, raised_unsound(7))
        part = lined(2, (1, 27), (0, 1))
        self.assert_error(Unsound, put_in, joined(part, bad), lined(2, (1, 15), (0, 1)))
        # NotWithin ahead of TooMany: a line of slope 16 / 15 / 27.
        self.assert_error(NotWithin, put_in, part, lined(2, (16, 15), (0, 1)))
        self.assert_error(TooMany, put_in, part, lined(2, (14, 15), (0, 1)))

    def test_nothing_is_changed(self):
        for base in BASES:
            rng = Random(base)
            g, inner = drawn_inner(base, rng)
            outer = sound_machines(base)[5][1]
            found = self.assert_unchanged(put_in, outer, inner)
            self.assertEqual(found, put_in(outer, inner))
            self.assert_unchanged(put_in, outer, lined(base, (2, 1), (0, 1)))
        self.assert_unchanged(put_in, unsound_machine(), unsound_machine())


def raised_unsound(height):
    """An unsound machine whose values are beyond."""
    return Machine(2, height, unsound_machine().rows)


if __name__ == "__main__":
    main()
