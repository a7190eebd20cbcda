"""Dusts: 7.1 and 7.2."""

from fractions import Fraction
from random import Random
from unittest import main

from anywriting.dusts import Dust, barred_at, between, bounds, common, either, holds, way_in
from anywriting.errors import BadDust, NoBase, NoNumber, OtherBase
from anywriting.machines import Machine
from anywriting.writings import is_writing
from checks import Case
from dust_samples import (
    barred_by_search, bounds_by_steps, cantor, drawn_dust, is_way, pictures, single, way_of,
)
from samples import BASES, absolute_machine, deep, drawn_number, frac, odd_things, pair, worth_by_sum


def dusts(base):
    """Dusts of one to twelve nodes."""
    rng = Random(base)
    found = [drawn_dust(base, nodes, rng, ways) for nodes in range(1, 13) for ways in (2, 4)]
    found += [cantor(base, 1 - base, base - 1), cantor(base, 0), cantor(base, *range(1 - base, base))]
    return found + [single(base, ((0, 1), (-1, 1, 0)))]


def some_numbers(base, rng):
    """Ends, numbers of small bottoms and of great ones, as Fractions."""
    found = [Fraction(-1), Fraction(1), Fraction(0), Fraction(1, base), Fraction(-1, base), Fraction(1, base + 1)]
    return found + [drawn_number(rng, most) for most in (3, 6, 12, 40, 1000)]


class Making(Case):
    def test_right_ones(self):
        for base in BASES:
            for dust in dusts(base):
                again = Dust(dust.base, dust.rows)
                self.assertEqual((again.base, again.rows), (dust.base, dust.rows))
                self.assertTrue(again == dust)
                self.assertFalse(again != dust)

    def test_equal_to_dusts_with_the_same_attributes_alone(self):
        one = cantor(3, -2, 2)
        for other in (cantor(3, -2, 1), cantor(4, -2, 2), Dust(3, one.rows + one.rows), single(3, ((), (2,)))):
            self.assertFalse(one == other)
            self.assertTrue(one != other)
        for thing in odd_things() + [one.rows, (3, one.rows), Machine(2, 0, absolute_machine().rows)]:
            self.assertFalse(one == thing)
            self.assertFalse(thing == one)

    def test_bad_bases(self):
        rows = (((0, 0),),)
        for base in odd_things() + [1, 6, 0, -2, 2 ** 70, "3", (3,), True]:
            if base not in BASES or isinstance(base, bool):
                self.assertEqual(self.assert_error(BadDust, Dust, base, rows).part, "base")
                self.assertEqual(self.assert_error(BadDust, Dust, base, None).part, "base")

    def test_bad_rows(self):
        for rows in odd_things() + [[((0, 0),)], {0: ((0, 0),)}, "rows", ()]:
            if not isinstance(rows, tuple) or len(rows) == 0:
                self.assertEqual(self.assert_error(BadDust, Dust, 3, rows).part, "rows")
            else:
                self.assertEqual(self.assert_error(BadDust, Dust, 3, rows).part, 0)

    def test_bad_nodes(self):
        right = ((-2, 0), (-2, 2), (0, 1), (2, 0))
        wrong = odd_things() + [
            (), [(0, 0)], ([0, 0],), ((0, 0, 0),), ((0,),), ((3, 0),), ((-3, 0),), ((0, 3),), ((0, -1),), ((0, 10 ** 20),),
            ((True, 0),), ((0, True),), ((0, 0), (0, 0)), ((1, 0), (0, 0)), ((0, 1), (0, 0)), ((0, 0), (1, 1), (1, 1)),
            ((0, 0), None), ((0, 0), 1), (("0", 0),), ((0, "0"),), ((None, 0),), ((0, None),), {(0, 0): 1}, "00",
            ((0, 0), (1, deep(0, 30))), ((0, 0), deep((1, 1), 30)), ((0, 0), (1, (1,))), (((0, 0),),), deep((), 38),
            ((0, 0), absolute_machine()), cantor(3, 0), ((0, 1), (1, 0), (0, 2)),
        ]
        Dust(3, (right, right, right))
        for node in range(3):
            for row in wrong:
                for behind in (right, None):
                    rows = (right,) * node + (row,) + (behind,) * (2 - node)
                    self.assertEqual(self.assert_error(BadDust, Dust, 3, rows).part, node)


class InIt(Case):
    def assert_judged(self, dust, x):
        """holds, way_in and barred_at are as a direct search tells."""
        number = pair(x)
        barred = barred_by_search(dust, x)
        self.assert_flag(barred is None, holds(dust, number))
        self.assertEqual(barred_at(dust, number), barred)
        way = way_in(dust, number)
        self.assertEqual(way is None, barred is not None)
        if way is not None:
            self.assert_flag(True, is_writing(dust.base, way))
            self.assertEqual(worth_by_sum(dust.base, way), x)
            self.assertTrue(is_way(dust, way))
        return barred is None

    def test_numbers_of_small_bottoms(self):
        for base in BASES:
            rng = Random(base)
            met = set()
            for dust in dusts(base):
                for x in some_numbers(base, rng):
                    met.add(self.assert_judged(dust, x))
            self.assertEqual(met, {True, False})

    def test_what_ways_write_and_nearly_so(self):
        for base in BASES:
            rng = Random(base)
            for dust in dusts(base):
                ahead, again = way_of(dust, rng)
                self.assertTrue(self.assert_judged(dust, worth_by_sum(base, (ahead, again))))
                other = list(again)
                other[-1] += -1 if other[-1] > 0 else 1
                self.assert_judged(dust, worth_by_sum(base, (ahead, tuple(other))))
                other = list(ahead)
                other[-1] += -1 if other[-1] > 0 else 1
                self.assert_judged(dust, worth_by_sum(base, (tuple(other), again)))

    def test_numbers_with_unlike_writings(self):
        # 1/2 by 0 and then 1 for ever is also 1 and then 0 for ever.
        dust = single(2, ((0,), (1,)))
        self.assertEqual((holds(dust, (1, 2)), way_in(dust, (1, 2)), barred_at(dust, (1, 2))), (True, ((0,), (1,)), None))
        self.assertEqual((holds(dust, (1, 1)), way_in(dust, (1, 1)), barred_at(dust, (1, 1))), (False, None, 1))
        self.assertEqual(barred_at(dust, (1, 4)), 4)
        self.assertEqual([barred_at(cantor(3, -2, 2), x) for x in ((0, 1), (1, 3), (1, 4), (10, 27))], [1, None, 1, 4])

    def test_what_is_barred_late(self):
        for base in BASES:
            for many in (1, 5, 30, 90):
                rows = [((0, k + 1),) for k in range(many)] + [((1, many),)]
                dust = Dust(base, tuple(rows))
                x = Fraction(1, base ** many * (base - 1))
                self.assertTrue(self.assert_judged(dust, x))
                self.assert_judged(dust, Fraction(-1, base ** many * (base - 1)))
                self.assert_judged(dust, Fraction(0))

    def test_no_number(self):
        dust = cantor(3, -2, 2)
        wrong = odd_things() + [(2, 1), (-3, 2), (2, 4), (1, 0), (1, -1), [1, 2], "1/2", 1, (True, 1), (1001, 1000)]
        for f in (holds, way_in, barred_at):
            f(dust, (1, 2))
            for thing in wrong:
                self.assert_error(NoNumber, f, dust, thing)
            self.assert_unchanged(f, dust, (2, 4))
            self.assertEqual(self.assert_unchanged(f, dust, (1, 2)), f(dust, (1, 2)))


class Bounds(Case):
    def test_drawn_dusts(self):
        for base in BASES:
            for dust in dusts(base):
                low, high = bounds(dust)
                for told, known in zip((low, high), bounds_by_steps(dust)):
                    self.assertLess(abs(frac(told) - known), Fraction(1, 2 ** 70))
                    self.assertEqual(told, pair(frac(told)))
                    self.assert_flag(True, holds(dust, told))
                self.assertLessEqual(frac(low), frac(high))

    def test_a_lesser_digit_that_leads_to_greater_numbers(self):
        for base in BASES:
            # By 0 and then the greatest digits for ever, or by 1 and then the least ones.
            dust = Dust(base, (((0, 1), (1, 2)), ((base - 1, 1),), ((1 - base, 2),)))
            self.assertEqual(bounds(dust), (pair(Fraction(0)), pair(Fraction(1, base))))
            # By 0 and then 1 for ever, or by 1 and then the least digits: what the greater digit leads to is less.
            dust = Dust(base, (((0, 1), (1, 2)), ((1, 1),), ((1 - base, 2),)))
            self.assertEqual(bounds(dust), ((0, 1), (1, base * (base - 1))))

    def test_known_ones(self):
        self.assertEqual(bounds(cantor(3, -2, 2)), ((-1, 1), (1, 1)))
        self.assertEqual(bounds(cantor(5, -1, 3)), ((-1, 4), (3, 4)))
        self.assertEqual(bounds(single(2, ((1,), (0, -1)))), ((1, 3), (1, 3)))
        dust = cantor(3, -2, 2)
        self.assertEqual(self.assert_unchanged(bounds, dust), bounds(dust))


def stretches(base, rng):
    """Pairs of numbers, the first one not above the other one."""
    one = Fraction(1, 1)
    late = worth_by_sum(base, ((0, 1) * 12, (1, 0, -1) * 8))
    near = worth_by_sum(base, ((0, 1) * 12, (1, 0, -1) * 7 + (1, 0, 0)))
    found = [(-one, one), (-one, -one), (one, one), (0 * one, 0 * one), (-one, 0 * one), (0 * one, one)]
    found += [tuple(sorted((late, near))), (late, late), (-one / base, one / base), (one / 3, one / 3)]
    found += [(one / 7, one / 7 + one / 1000), (-one / 1000, one / 999), (one - one / 1000, one), (-one, one / 997 - 1)]
    for most in (2, 5, 30, 30, 100):
        found.append(tuple(sorted((drawn_number(rng, most), drawn_number(rng, most)))))
    return found


class Between(Case):
    def near(self, base, x):
        """Numbers of few digits at x and somewhat further off."""
        found = []
        for many in (1, 2, 5, 20, 60):
            scale = base ** many
            top = x.numerator * scale // x.denominator
            found += [Fraction(top + k, scale) for k in (-1, 0, 1)]
        return [z for z in found if abs(z) <= 1]

    def test_stretches(self):
        for base in BASES:
            rng = Random(base)
            for x, y in stretches(base, rng):
                dust = between(base, pair(x), pair(y))
                self.assertIs(type(dust), Dust)
                self.assertEqual(dust.base, base)
                self.assertEqual(bounds(dust), (pair(x), pair(y)))
                for z in [x, y, drawn_number(rng, 60)] + self.near(base, x) + self.near(base, y):
                    self.assert_flag(x <= z <= y, holds(dust, pair(z)))
                    self.assertEqual(way_in(dust, pair(z)) is not None, x <= z <= y)
                    self.assertEqual(barred_at(dust, pair(z)) is None, x <= z <= y)

    def test_few_pictures(self):
        for base in BASES:
            rng = Random(base)
            for x, y in stretches(base, rng):
                if len(between(base, pair(x), pair(y)).rows) <= 300:
                    self.assertLessEqual(pictures(between(base, pair(x), pair(y)), 2000), 2000)
            for dust in (between(base, (-1, 1), (1, 1)), between(base, (0, 1), (0, 1)), between(base, (-1, 1), (0, 1))):
                self.assertLessEqual(pictures(dust), 12)

    def test_as_many_pictures_as_there_must_be(self):
        # A single number is seen from five integers, at each of its unlike remainders; and then there is nothing.
        for base, bottom, many in ((5, 397, 396), (3, 199, 198), (2, 11, 10), (4, 47, 23)):
            dust = between(base, (1, bottom), (1, bottom))
            self.assertEqual((len(dust.rows), pictures(dust)), (many, 5 * many + 1))
        # Two ends need as much each, and but few more.
        for base, x, y, many in ((5, (1, 397), (1, 1), 396), (3, (-5, 199), (98, 199), 396), (2, (-3, 11), (5, 11), 20)):
            self.assertLessEqual(pictures(between(base, x, y)), 5 * many + 20)
        for x in ((1, 397), (-200, 397), (396, 397), (-396, 397)):
            self.assertLessEqual(pictures(between(5, x, (1, 1)), 2000), 2000)
            self.assertLessEqual(pictures(between(5, (-1, 1), x), 2000), 2000)

    def test_errors(self):
        wrong = [thing for thing in odd_things() if thing not in ((0, 1),)]
        for thing in wrong + [1, 6, True, "2", (2,)]:
            self.assert_error(NoBase, between, thing, (0, 1), (1, 2))
            self.assert_error(NoBase, between, thing, None, None)
        for base in BASES:
            for thing in wrong + [(2, 1), (2, 4), [0, 1], (1, 0), (-1, -1), (True, 1)]:
                self.assert_error(NoNumber, between, base, thing, (1, 1))
                self.assert_error(NoNumber, between, base, (-1, 1), thing)
                self.assert_error(NoNumber, between, base, thing, thing)
            for x, y in (((1, 2), (1, 3)), ((0, 1), (-1, 1000)), ((1, 1), (999, 1000)), ((1, 1), (-1, 1))):
                self.assert_error(NoNumber, between, base, x, y)
                between(base, y, x)

    def test_nothing_is_changed(self):
        for x, y in (((-1, 3), (2, 7)), ((2, 7), (-1, 3)), ((1, 2), (1, 2))):
            self.assert_unchanged(between, 3, x, y)
        self.assertEqual(between(3, (-1, 3), (2, 7)), between(3, (-1, 3), (2, 7)))


class Together(Case):
    def assert_together(self, one, other, numbers):
        """What is in either and in common is what is in one or other, and in both."""
        joint = either(one, other)
        shared = common(one, other)
        for x in numbers:
            in_one, in_other = holds(one, pair(x)), holds(other, pair(x))
            self.assert_flag(in_one or in_other, holds(joint, pair(x)))
            if shared is None:
                self.assertFalse(in_one and in_other)
            else:
                self.assert_flag(in_one and in_other, holds(shared, pair(x)))
                self.assertEqual(barred_at(shared, pair(x)) is None, way_in(shared, pair(x)) is not None)
        lows = [frac(bounds(dust)[0]) for dust in (one, other)]
        highs = [frac(bounds(dust)[1]) for dust in (one, other)]
        self.assertEqual(bounds(joint), (pair(min(lows)), pair(max(highs))))
        if shared is not None:
            for end in bounds(shared):
                self.assert_flag(True, holds(one, end) and holds(other, end) and holds(joint, end))
        return joint, shared

    def test_stretches(self):
        for base in BASES:
            rng = Random(base)
            chosen = [(x, y) for x, y in stretches(base, rng) if len(between(base, pair(x), pair(y)).rows) <= 150]
            for x, y in chosen:
                for a, b in rng.sample(chosen, 3):
                    one, other = between(base, pair(x), pair(y)), between(base, pair(a), pair(b))
                    numbers = [x, y, a, b, (x + y) / 2, (a + b) / 2, (x + b) / 2, (y + a) / 2, drawn_number(rng, 30)]
                    _, shared = self.assert_together(one, other, numbers)
                    if max(x, a) > min(y, b):
                        self.assertIsNone(shared)
                    else:
                        self.assertEqual(bounds(shared), (pair(max(x, a)), pair(min(y, b))))

    def test_stretches_that_touch_at_one_number(self):
        for base in BASES:
            for x in (Fraction(0), Fraction(1, base), Fraction(-1, base ** 3), Fraction(1, 3), Fraction(-5, 7)):
                one = between(base, (-1, 1), pair(x))
                other = between(base, pair(x), (1, 1))
                _, shared = self.assert_together(one, other, [x, x / 2, Fraction(0), Fraction(1), Fraction(-1)])
                self.assertEqual(bounds(shared), (pair(x), pair(x)))

    def test_one_number_by_unlike_writings(self):
        for base in BASES:
            high, low = base - 1, 1 - base
            writings = [((0,), (high,)), ((1,), (0,)), ((1, 0), (0, 0)), ((1, 1), (low,)), ((0, high), (high,))]
            writings += [((1, 0, 1), (low,)), ((1, 0, -1), (high,)), ((1, 1), (0, low))]
            for one in writings:
                for other in writings:
                    shared = common(single(base, one), single(base, other))
                    x = worth_by_sum(base, one)
                    if x == worth_by_sum(base, other):
                        self.assertEqual(bounds(shared), (pair(x), pair(x)))
                        self.assertTrue(is_way(shared, way_in(shared, pair(x))))
                    else:
                        self.assertIsNone(shared)
                    self.assert_together(single(base, one), single(base, other), [x, Fraction(0), Fraction(1, base)])

    def test_drawn_dusts(self):
        for base in BASES:
            rng = Random(base)
            met = set()
            for _ in range(25):
                one, other = [drawn_dust(base, rng.randrange(1, 8), rng, 5) for _ in range(2)]
                numbers = [worth_by_sum(base, way_of(rng.choice((one, other)), rng, 6)) for _ in range(4)]
                _, shared = self.assert_together(one, other, numbers + some_numbers(base, rng)[:7])
                met.add(shared is None)
                if shared is not None:
                    x = worth_by_sum(base, way_of(shared, rng, 6))
                    self.assertTrue(holds(one, pair(x)) and holds(other, pair(x)))
            self.assertEqual(met, {True, False})

    def test_what_was_told_is_passed_on(self):
        for base in BASES:
            rng = Random(base)
            x, y, z = sorted([drawn_number(rng, 12) for _ in range(3)])
            dust = either(between(base, (-1, 1), pair(x)), between(base, pair(y), pair(z)))
            web = cantor(base, 1 - base, base - 1)
            shared = common(dust, web)
            self.assertEqual(bounds(shared)[0], (-1, 1))
            both = either(shared, common(web, between(base, pair(z), (1, 1))))
            self.assertEqual(bounds(both), ((-1, 1), (1, 1)))
            for w in some_numbers(base, rng) + [x, y, z]:
                inside = holds(web, pair(w)) and (w <= x or y <= w)
                self.assert_flag(inside, holds(both, pair(w)))
                self.assertEqual(barred_at(both, pair(w)) is None, inside)
            ends = bounds(common(dust, drawn_dust(base, 3, rng, 5)) or dust)
            for end in ends:
                self.assert_flag(True, holds(between(base, end, end), end))

    def test_the_same_dust(self):
        for base in BASES:
            rng = Random(base)
            for dust in dusts(base):
                joint, shared = self.assert_together(dust, dust, some_numbers(base, rng)[:7])
                self.assertEqual((bounds(joint), bounds(shared)), (bounds(dust), bounds(dust)))

    def test_none(self):
        self.assertIsNone(common(cantor(2, 1), cantor(2, -1)))
        self.assertIsNone(common(between(3, (-1, 1), (0, 1)), between(3, (1, 10 ** 3), (1, 1))))
        self.assertIsNone(common(cantor(5, -4, 4), between(5, (-1, 3), (1, 3))))
        self.assertIsNotNone(common(cantor(5, -4, 4), between(5, (-1, 3), (3, 5))))

    def test_other_base(self):
        for base in BASES:
            for other in BASES:
                if other != base:
                    self.assert_error(OtherBase, either, cantor(base, 0), cantor(other, 0))
                    self.assert_error(OtherBase, common, cantor(base, 0), cantor(other, 0))

    def test_nothing_is_changed(self):
        one, other = cantor(3, -2, 2), between(3, (0, 1), (2, 3))
        for f in (either, common):
            found = self.assert_unchanged(f, one, other)
            self.assertEqual(found, f(one, other))
            self.assert_unchanged(f, one, cantor(2, 0))


if __name__ == "__main__":
    main()
