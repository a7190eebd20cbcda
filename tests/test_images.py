"""Dusts of what machines make, and of the numbers of which they make something: 7.5."""

from fractions import Fraction
from random import Random
from unittest import main

from anywriting.distances import apart, distance
from anywriting.dusts import Dust, between, bounds, either, holds
from anywriting.errors import OtherBase, Unsound
from anywriting.images import behind, image, noughts, standing
from anywriting.soundness import value
from checks import Case
from dust_samples import (
    barred_by_search, cantor, drawn_dust, drawn_intervals, merged, numbers_near, single, stretches_dust, way_of,
)
from samples import (
    BASES, absolute_machine, broken, bumps, crowded, drawn_broken, drawn_number, frac, learned, makes_by_sum, pair, retold,
    some_writing, sound_machines, straight, unsound_machine, worth_by_sum,
)

ONE = Fraction(1)


def segments(points):
    return list(zip(points, points[1:]))


def places_at(points, low, high, slope=0):
    """The intervals of the numbers x at which the broken line, less slope times x, is from low to high."""
    found = []
    for (a, y), (b, z) in segments(points):
        y, z = y - slope * a, z - slope * b
        if y == z:
            if low <= y <= high:
                found.append((a, b))
            continue
        ends = sorted([a + (b - a) * (end - y) / (z - y) for end in (low, high)])
        if ends[0] <= b and ends[1] >= a:
            found.append((max(a, ends[0]), min(b, ends[1])))
    return merged(found)


def heights_over(points, intervals):
    """The intervals of the heights from -1 to 1 of the broken line over these intervals."""
    at = broken(points)
    found = []
    for (a, _), (b, _) in segments(points):
        for low, high in intervals:
            low, high = max(a, low), min(b, high)
            if low <= high:
                ends = sorted([at(low), at(high)])
                if ends[0] <= 1 and ends[1] >= -1:
                    found.append((max(-ONE, ends[0]), min(ONE, ends[1])))
    return merged(found)


class Images(Case):
    def assert_just(self, base, dust, intervals, rng):
        """The numbers in the dust are just those of the intervals."""
        if not intervals:
            self.assertIsNone(dust)
            return
        self.assertIs(type(dust), Dust)
        self.assertEqual(dust.base, base)
        self.assertEqual(bounds(dust), (pair(intervals[0][0]), pair(intervals[-1][1])))
        for x in numbers_near(base, intervals, rng):
            inside = any([low <= x <= high for low, high in intervals])
            self.assertEqual(barred_by_search(dust, x) is None, inside, (base, dust.rows, x))


class Broken(Images):
    def test_noughts_and_standing(self):
        met = set()
        for base in BASES:
            rng = Random(base)
            for _ in range(25):
                points, machine = drawn_broken(base, rng)
                if rng.randrange(3) == 0:
                    points = [(x, max(y, 0 * ONE)) for x, y in points]
                    machine = None
                if machine is None:
                    machine = learned(base, broken(points), 200)
                for f, slope in ((noughts, 0), (standing, 1)):
                    zeros = places_at(points, 0, 0, slope)
                    dust = f(machine)
                    self.assert_just(base, dust, zeros, rng)
                    self.assertEqual(f(retold(machine, rng)), dust)
                    met.add((slope, min(2, len(zeros)), any([low < high for low, high in zeros])))
        self.assertLessEqual({(0, 0, False), (0, 1, False), (0, 2, False), (0, 1, True), (1, 1, False)}, met)

    def test_lines(self):
        for base in BASES:
            rng = Random(base)
            for slope, height in ((0, 0), (0, 1), (1, 0), (1, 1), (-1, Fraction(1, 3)), (3, 3), (2, 5), (-400, 7)):
                points = [(-ONE, ONE * height - slope), (ONE, ONE * height + slope)]
                machine = learned(base, straight(ONE * slope, ONE * height))
                self.assert_just(base, noughts(machine), places_at(points, 0, 0), rng)
                self.assert_just(base, standing(machine), places_at(points, 0, 0, 1), rng)

    def test_image_and_behind(self):
        none = set()
        for base in BASES:
            rng = Random(base)
            for _ in range(18):
                points, machine = drawn_broken(base, rng)
                intervals = drawn_intervals(rng, 6)
                dust = stretches_dust(base, intervals)
                heights = heights_over(points, intervals)
                sources = merged([ends for low, high in intervals for ends in places_at(points, low, high)])
                self.assert_just(base, image(machine, dust), heights, rng)
                self.assert_just(base, behind(machine, dust), sources, rng)
                told = retold(machine, rng)
                self.assertEqual((image(told, dust), behind(told, dust)), (image(machine, dust), behind(machine, dust)))
                none |= {("image", not heights), ("behind", not sources)}
        self.assertEqual(len(none), 4)

    def test_values_beyond_are_left_out(self):
        for base in BASES:
            rng = Random(base)
            machine = learned(base, straight(3 * ONE, ONE))
            whole = between(base, (-1, 1), (1, 1))
            self.assert_just(base, image(machine, whole), [(-ONE, ONE)], rng)
            self.assert_just(base, image(machine, between(base, (-1, 1), (-1, 2))), [(-ONE, -ONE / 2)], rng)
            self.assert_just(base, image(machine, between(base, (0, 1), (1, 1))), [(ONE, ONE)], rng)
            self.assertIsNone(image(machine, between(base, (1, 7), (1, 1))))
            self.assert_just(base, behind(machine, whole), [(-2 * ONE / 3, 0 * ONE)], rng)
            self.assertIsNone(behind(learned(base, straight(0 * ONE, 2 * ONE)), whole))


class Crowds(Images):
    def test_bumps(self):
        for base in BASES:
            rng = Random(base)
            zeros = [(-ONE, 0 * ONE)]
            for name, f, machine in crowded(base):
                if name == "bumps":
                    dust = noughts(machine)
                    for many in range(30):
                        x = ONE / base ** many
                        self.assert_flag(True, holds(dust, pair(x)))
                        self.assert_flag(False, holds(dust, pair(x * Fraction(2 * base ** 3 - 1, 2 * base ** 3))))
                    for x in numbers_near(base, zeros, rng):
                        self.assertEqual(barred_by_search(dust, x) is None, f(x) == 0)
                    self.assertEqual(bounds(dust), ((-1, 1), (1, 1)))
                    high = learned(base, lambda x: bumps(base)(x) + x, 60)
                    self.assertEqual(apart(standing(high), dust)[0], (0, 1))

    def test_each_number(self):
        for base in BASES:
            rng = Random(base)
            for f, machine in sound_machines(base):
                zeros, fixed = noughts(machine), standing(machine)
                for x in [drawn_number(rng, 12) for _ in range(20)] + [ONE, -ONE, 0 * ONE]:
                    self.assertEqual(zeros is not None and holds(zeros, pair(x)), f(x) == 0)
                    self.assertEqual(fixed is not None and holds(fixed, pair(x)), f(x) == x)
                for dust, height in ((zeros, lambda x: 0), (fixed, lambda x: x)):
                    for _ in range(3 if dust is not None else 0):
                        x = worth_by_sum(base, way_of(dust, rng, 6))
                        self.assertEqual(f(x), height(x))

    def test_noughts_of_a_distance(self):
        for base in BASES:
            rng = Random(base)
            for _ in range(15):
                dust = drawn_dust(base, rng.randrange(1, 4), rng, 3)
                machine = distance(dust)
                again = noughts(machine)
                self.assertEqual(apart(again, dust)[0], (0, 1))
                self.assertEqual(distance(again), machine)


def is_image_by_search(machine, dust, y):
    """Whether the machine makes y of some number in the dust, level by level."""
    most = 2 + max([abs(told) for row in machine.rows for told, _ in row]) * 3
    level = {(0, 0, y - machine.first)}
    met = set()
    while level and frozenset(level) not in met:
        met.add(frozenset(level))
        after = set()
        for node, state, left in level:
            for digit, beyond in dust.rows[node]:
                told, state_beyond = machine.rows[state][digit + machine.base - 1]
                if abs(machine.base * left - told) <= most:
                    after.add((beyond, state_beyond, machine.base * left - told))
        level = after
    return bool(level)


class Drawn(Images):
    def test_image(self):
        met = set()
        for base in BASES:
            rng = Random(base)
            for f, machine in sound_machines(base, 3):
                dust = drawn_dust(base, rng.randrange(1, 4), rng, 3)
                found = image(machine, dust)
                heights = [f(worth_by_sum(base, way_of(dust, rng, 5))) for _ in range(5)]
                for y in heights + [drawn_number(rng, 6) for _ in range(4)]:
                    if abs(y) <= 1:
                        inside = is_image_by_search(machine, dust, y)
                        self.assertEqual(found is not None and holds(found, pair(y)), inside)
                        met.add(inside)
                        self.assertTrue(inside or y not in heights)
                for _ in range(3 if found is not None else 0):
                    y = worth_by_sum(base, way_of(found, rng, 5))
                    self.assertTrue(is_image_by_search(machine, dust, y))
        self.assertEqual(met, {True, False})

    def test_behind(self):
        met = set()
        for base in BASES:
            rng = Random(base)
            for f, machine in sound_machines(base, 3):
                dust = drawn_dust(base, rng.randrange(1, 4), rng, 5)
                found = behind(machine, dust)
                for _ in range(3 if found is not None else 0):
                    x = worth_by_sum(base, way_of(found, rng, 6))
                    self.assertLessEqual(abs(f(x)), 1)
                    self.assertIsNone(barred_by_search(dust, f(x)))
                for x in [drawn_number(rng, 12) for _ in range(8)] + [ONE, -ONE, 0 * ONE]:
                    inside = abs(f(x)) <= 1 and barred_by_search(dust, f(x)) is None
                    self.assertEqual(found is not None and holds(found, pair(x)), inside)
                    met.add(inside)
        self.assertEqual(met, {True, False})

    def test_the_number_itself(self):
        for base in BASES:
            rng = Random(base)
            line = learned(base, straight(ONE, 0 * ONE))
            for _ in range(8):
                dust = drawn_dust(base, rng.randrange(1, 4), rng, 3)
                self.assertEqual(apart(image(line, dust), dust)[0], (0, 1))
                self.assertEqual(apart(behind(line, dust), dust)[0], (0, 1))
                mirror = learned(base, straight(-ONE, 0 * ONE))
                self.assertEqual(apart(image(mirror, image(mirror, dust)), dust)[0], (0, 1))
                self.assertEqual(apart(image(mirror, dust), behind(mirror, dust))[0], (0, 1))

    def test_single_numbers(self):
        for base in BASES:
            rng = Random(base)
            for f, machine in sound_machines(base, 5):
                x = drawn_number(rng, 9)
                self.assertEqual(frac(value(machine, pair(x))), f(x))
                found = image(machine, single(base, some_writing(base, x, rng)))
                if abs(f(x)) > 1:
                    self.assertIsNone(found)
                else:
                    self.assertEqual(bounds(found), (pair(f(x)), pair(f(x))))
                    writing = some_writing(base, f(x), rng)
                    self.assert_flag(True, holds(behind(machine, single(base, writing)), pair(x)))
                    self.assertEqual(machine.first + makes_by_sum(machine, 0, some_writing(base, x, rng)), f(x))


class Wrong(Case):
    def test_other_base_ahead_of_unsound(self):
        wrong = unsound_machine()
        for f in (image, behind):
            for base in (3, 4, 5):
                self.assert_error(OtherBase, f, wrong, cantor(base, 0))
                self.assert_error(OtherBase, f, absolute_machine(), cantor(base, 0))
            self.assert_error(Unsound, f, wrong, cantor(2, 0))
            self.assertIsInstance(f(absolute_machine(), cantor(2, 0)), Dust)

    def test_unsound(self):
        for f in (noughts, standing):
            self.assert_error(Unsound, f, unsound_machine())
            self.assertIsInstance(f(absolute_machine()), Dust)

    def test_nothing_is_changed(self):
        dust = either(cantor(2, 0), between(2, (1, 3), (1, 2)))
        for f in (image, behind):
            found = self.assert_unchanged(f, absolute_machine(), dust)
            self.assertEqual(found, f(absolute_machine(), dust))
            self.assert_unchanged(f, unsound_machine(), dust)
        for f in (noughts, standing):
            self.assertEqual(self.assert_unchanged(f, absolute_machine()), f(absolute_machine()))
            self.assert_unchanged(f, unsound_machine())


if __name__ == "__main__":
    main()
