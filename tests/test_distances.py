"""How far numbers are from dusts, what is outside of one, and dusts apart: 7.4."""

from fractions import Fraction
from random import Random
from unittest import main

from anywriting.distances import apart, distance, outside
from anywriting.dusts import Dust, barred_at, between, either, holds
from anywriting.errors import OtherBase, TooMany
from anywriting.least import is_least
from anywriting.shapes import pieces
from anywriting.soundness import value
from anywriting.straight import slopes
from checks import Case
from dust_samples import (
    barred_by_search, cantor, drawn_dust, drawn_intervals, joint, least_far, merged, numbers_near, pictures, single,
    stretches_dust, way_of,
)
from samples import BASES, broken_pieces, drawn_number, frac, pair, worth_by_sum

ONE = Fraction(1)


def far_from(intervals, x):
    return min([max(low - x, x - high, Fraction(0)) for low, high in intervals])


def corners(intervals):
    """The points (x, y) of the broken line of how far numbers are from these intervals."""
    places = {-ONE, ONE}
    for (low, high), beyond in zip(intervals, intervals[1:] + [None]):
        places |= {low, high}
        if beyond is not None:
            places.add((high + beyond[0]) / 2)
    return [(x, far_from(intervals, x)) for x in sorted(places)]


def farthest(intervals, others):
    """The greatest distance of a number in the intervals from the others."""
    places = [x for x, _ in corners(others) if far_from(intervals, x) == 0] + [x for ends in intervals for x in ends]
    return max([far_from(others, x) for x in places])


def told_otherwise(dust, rng):
    """A dust of the same numbers: some nodes told twice, each one led to by turns, and one that nothing leads to."""
    many = len(dust.rows)
    copies = {node: [node] for node in range(many)}
    places = list(range(many))
    for _ in range(rng.randrange(1, 4)):
        node = rng.randrange(many)
        copies[node].append(len(places))
        places.append(node)
    rows = [tuple(sorted({(d, rng.choice(copies[k])) for d, k in dust.rows[node]})) for node in places]
    return Dust(dust.base, tuple(rows) + (((1 - dust.base, 0), (0, 0)),))


class Distance(Case):
    def assert_distance(self, dust, machine, numbers):
        """The machine is the least one of how far numbers are from the dust."""
        self.assert_flag(True, is_least(machine))
        self.assertLessEqual(set(slopes(machine)), {(-1, 1), (0, 1), (1, 1)})
        for x in numbers:
            far = frac(value(machine, pair(x)))
            self.assertLessEqual(abs(far - least_far(dust, x)), Fraction(1, dust.base ** 40), (dust.rows, x))
            self.assertEqual(far == 0, barred_by_search(dust, x) is None)

    def test_drawn_dusts(self):
        told = 0
        for base in BASES:
            rng = Random(base)
            for _ in range(40):
                dust = drawn_dust(base, rng.randrange(1, 6), rng, rng.randrange(1, 5))
                try:
                    machine = distance(dust)
                except TooMany as error:
                    self.assertEqual(error.most, 400)
                    continue
                told += 1
                numbers = [drawn_number(rng, 40) for _ in range(4)] + [worth_by_sum(base, way_of(dust, rng, 6))]
                self.assert_distance(dust, machine, numbers + [-ONE, ONE, 0 * ONE])
                self.assertEqual(distance(told_otherwise(dust, rng)), machine)
        self.assertGreater(told, 150)

    def test_stretches(self):
        for base in BASES:
            rng = Random(base)
            told = 0
            for most in [6] * 30:
                intervals = drawn_intervals(rng, most)
                dust = stretches_dust(base, intervals)
                machine = distance(dust)
                expected = broken_pieces(corners(intervals))
                found = pieces(machine)
                self.assertEqual([(frac(x), frac(a), frac(b)) for x, (a, b) in [(p[0], p[1:]) for p in found]], expected)
                self.assert_distance(dust, machine, [])
                for x in numbers_near(base, intervals, rng):
                    self.assertEqual(value(machine, pair(x)), pair(far_from(intervals, x)))
                told += 1
            self.assertEqual(told, 30)

    def test_the_same_numbers_told_otherwise(self):
        for base in BASES:
            rng = Random(base)
            for _ in range(6):
                intervals = drawn_intervals(rng, 8)
                dust = stretches_dust(base, intervals)
                low, high = intervals[0]
                inner = between(base, pair((low + high) / 2), pair(high))
                machine = distance(dust)
                self.assertEqual(distance(either(inner, dust)), machine)
                self.assertEqual(distance(either(dust, dust)), machine)
                self.assertEqual(distance(told_otherwise(dust, rng)), machine)
            self.assertEqual(distance(single(base, ((1,), (0,)))), distance(single(base, ((0,), (base - 1,)))))
            self.assertEqual(len(distance(cantor(base, *range(1 - base, base))).rows), 1)

    def test_just_as_many_states_as_are_let(self):
        # A single number needs for each remainder itself, from below and from above, and a line on either side.
        for base, bottom, many in ((3, 101, 400), (2, 199, 396), (5, 97, 384), (4, 197, 392)):
            machine = distance(between(base, (1, bottom), (1, bottom)))
            self.assertEqual(len(machine.rows), many)
            self.assert_flag(True, is_least(machine))
            self.assertEqual(value(machine, (1, bottom)), (0, 1))
            self.assertEqual(value(machine, (-1, 2)), pair(Fraction(1, 2) + Fraction(1, bottom)))
        for base, bottom in ((2, 131), (3, 127), (5, 103), (4, 211), (3, 227), (2, 202)):
            dust = between(base, (1, bottom), (1, bottom))
            self.assertEqual(self.assert_error(TooMany, distance, dust).most, 400)
            self.assertEqual(self.assert_error(TooMany, distance, either(dust, dust)).most, 400)

    def test_many_pictures_of_few_states(self):
        rng = Random(1)
        for base in BASES:
            # Ways that count for ever, through hundreds of nodes, but the numbers are those of one node alone.
            many = {2: 90, 3: 200, 4: 200, 5: 120}[base]
            rows = [tuple([(d, (k + 1) % many) for d in (1 - base, base - 1)]) for k in range(many)]
            dust = Dust(base, tuple(rows))
            self.assertTrue(300 < pictures(dust, 2001) <= 2000)
            machine = distance(dust)
            self.assertEqual(machine, distance(cantor(base, 1 - base, base - 1)))
            self.assertLess(len(machine.rows), 12)
            self.assert_distance(dust, machine, [drawn_number(rng, 20) for _ in range(3)])


class Outside(Case):
    def assert_outside(self, one, other):
        x = outside(one, other)
        self.assertEqual(outside(one, other), x)
        if x is None:
            return False
        self.assertIsNone(barred_by_search(one, frac(x)))
        self.assertIsNotNone(barred_by_search(other, frac(x)))
        return True

    def test_drawn_dusts(self):
        for base in BASES:
            rng = Random(base)
            for _ in range(30):
                one, other = [drawn_dust(base, rng.randrange(1, 6), rng, 4) for _ in range(2)]
                both = either(one, other)
                self.assertFalse(self.assert_outside(one, one))
                self.assertFalse(self.assert_outside(one, both))
                self.assertFalse(self.assert_outside(other, both))
                self.assertFalse(self.assert_outside(told_otherwise(one, rng), one))
                if self.assert_outside(both, other):
                    self.assertTrue(self.assert_outside(one, other))
                else:
                    for _ in range(5):
                        self.assertTrue(holds(other, pair(worth_by_sum(base, way_of(one, rng, 5)))))

    def test_stretches(self):
        for base in BASES:
            rng = Random(base)
            for _ in range(25):
                intervals, others = drawn_intervals(rng), drawn_intervals(rng)
                one, other = stretches_dust(base, intervals), stretches_dust(base, others)
                within = all([any([a <= low and high <= b for a, b in others]) for low, high in intervals])
                self.assertEqual(self.assert_outside(one, other), not within)
                self.assertFalse(self.assert_outside(one, stretches_dust(base, merged(intervals + others))))

    def test_one_number_by_unlike_writings(self):
        for base in BASES:
            writings = [((0,), (base - 1,)), ((1,), (0,)), ((1, 0), (0, 0)), ((1, 1), (1 - base,)), ((1, 0), (1,))]
            for one in writings:
                for other in writings:
                    same = worth_by_sum(base, one) == worth_by_sum(base, other)
                    self.assertEqual(self.assert_outside(single(base, one), single(base, other)), not same)

    def test_far_behind(self):
        for base in BASES:
            for many in (3, 40):
                late = Fraction(1, base ** many)
                one = between(base, (0, 1), pair(late))
                self.assertTrue(self.assert_outside(one, single(base, ((0,), (0,)))))
                self.assertFalse(self.assert_outside(single(base, ((0,), (0,))), one))
                self.assertIsNotNone(barred_at(single(base, ((0,), (0,))), outside(one, cantor(base, 0))))


class Apart(Case):
    def assert_apart(self, one, other):
        far, x, which = apart(one, other)
        self.assertEqual(apart(one, other), (far, x, which))
        self.assertIn(which, (0, 1))
        self.assertIs(type(which), int)
        there, beside = (one, other) if which == 0 else (other, one)
        self.assertIsNone(barred_by_search(there, frac(x)))
        off = abs(least_far(beside, frac(x)) - frac(far))
        self.assertLessEqual(off, Fraction(1, one.base ** 40))
        return frac(far), frac(x), which

    def test_stretches(self):
        met = set()
        for base in BASES:
            rng = Random(base)
            for _ in range(40):
                intervals, others = drawn_intervals(rng, 9), drawn_intervals(rng, 9)
                far, x, which = self.assert_apart(stretches_dust(base, intervals), stretches_dust(base, others))
                sides = (farthest(intervals, others), farthest(others, intervals))
                self.assertEqual(far, max(sides))
                self.assertEqual(which, 0 if sides[0] == far else 1)
                self.assertEqual(far_from((others, intervals)[which], x), far)
                met.add((which, x in [end for ends in (intervals, others)[which] for end in ends]))
        self.assertEqual(len(met), 4)

    def test_both_reach_the_greatest(self):
        for base in BASES:
            one, other = between(base, (-1, 2), (0, 1)), between(base, (0, 1), (1, 2))
            self.assertEqual(self.assert_apart(one, other), (ONE / 2, -ONE / 2, 0))
            self.assertEqual(self.assert_apart(other, one), (ONE / 2, ONE / 2, 0))
            ends = stretches_dust(base, [(-ONE, -ONE), (ONE, ONE)])
            self.assertEqual(self.assert_apart(ends, between(base, (-1, 1), (1, 1))), (ONE, 0 * ONE, 1))
            self.assertEqual(self.assert_apart(between(base, (-1, 1), (1, 1)), ends), (ONE, 0 * ONE, 0))

    def test_the_same_numbers(self):
        for base in BASES:
            rng = Random(base)
            for _ in range(25):
                dust = drawn_dust(base, rng.randrange(1, 5), rng, 4)
                for other in (dust, told_otherwise(dust, rng), either(dust, dust)):
                    far, _, which = self.assert_apart(dust, other)
                    self.assertEqual((far, which), (0, 0))
            self.assertEqual(apart(single(base, ((1,), (0,))), single(base, ((0,), (base - 1,)))), ((0, 1), (1, base), 0))

    def test_drawn_dusts(self):
        for base in BASES:
            rng = Random(base)
            for _ in range(25):
                one, other = [drawn_dust(base, rng.randrange(1, 5), rng, 3) for _ in range(2)]
                far, _, _ = self.assert_apart(one, other)
                for dust, beside in ((one, other), (other, one)):
                    for _ in range(4):
                        x = worth_by_sum(base, way_of(dust, rng, 6))
                        self.assertLessEqual(least_far(beside, x), far + Fraction(1, base ** 40))
                nowhere = outside(one, other) is None and outside(other, one) is None
                self.assertEqual(far == 0, nowhere)

    def test_of_what_was_told(self):
        for base in BASES:
            whole = between(base, (-1, 1), (1, 1))
            self.assertEqual(apart(whole, joint([whole, cantor(base, 0)]))[0], (0, 1))
            self.assertEqual(apart(cantor(base, 0), whole), ((1, 1), apart(cantor(base, 0), whole)[1], 1))
            self.assertIn(apart(cantor(base, 0), whole)[1], ((1, 1), (-1, 1)))


class Wrong(Case):
    def test_other_base_ahead_of_too_many(self):
        for base in BASES:
            for other in BASES:
                if other != base:
                    many = single(other, ((), (1,) + (0,) * 450))
                    for f in (outside, apart):
                        self.assert_error(OtherBase, f, cantor(base, 0), cantor(other, 0))
                        self.assert_error(OtherBase, f, cantor(base, 0), many)
                        self.assert_error(OtherBase, f, many, cantor(base, 0))

    def test_nothing_is_changed(self):
        one, other = cantor(3, -2, 2), between(3, (0, 1), (2, 3))
        for f in (outside, apart):
            self.assertEqual(self.assert_unchanged(f, one, other), f(one, other))
            self.assert_unchanged(f, one, cantor(2, 0))
            self.assert_unchanged(f, one, single(3, ((), (1,) + (0,) * 450)))
        self.assertEqual(self.assert_unchanged(distance, one), distance(one))


if __name__ == "__main__":
    main()
