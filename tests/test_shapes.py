"""Falls, dents, lines between numbers, climbs, crowds and pieces: 4.3 to 4.5."""

from fractions import Fraction
from random import Random
from unittest import main

from anywriting.errors import NoNumber, TooMany, Unsound
from anywriting.least import left, lined
from anywriting.machines import Machine
from anywriting.shapes import (
    climb, crowd, dent, fall, is_crowd, is_dent, is_fall, line_between, pieces,
)
from anywriting.straight import slopes
from checks import Case
from samples import (
    BASES, absolute_machine, added, broken, broken_pieces, bump_bends, bumps, crowded, drawn_broken, drawn_number,
    dust_distance, floor, frac, joined, learned, many_pieces, nested_bumps, odd_things, pair, retold, saw,
    sound_machines, straight, unsound_machine, worth_by_sum,
)

SMALL = Fraction(1, 999)


def retold_machines(base, seed):
    """Pairs of a function and a machine that tells it, some of more states than it needs."""
    rng = Random(400 * base + seed)
    found = []
    for f, machine in sound_machines(base):
        found += [(f, machine), (f, retold(machine, rng))]
    return found


def broken_machines(base, seed, many=8):
    """Pairs of the points of a broken line and a machine that tells it."""
    rng = Random(500 * base + seed)
    found = []
    for _ in range(many):
        points, machine = drawn_broken(base, rng)
        found.append((points, rng.choice((machine, retold(machine, rng)))))
    return found


def is_rising(numbers):
    return all(abs(x) <= 1 for x in numbers) and all(x < y for x, y in zip(numbers, numbers[1:]))


class Falls(Case):
    def test_told_falls(self):
        found = 0
        for base in BASES:
            for f, machine in retold_machines(base, 1):
                told = fall(machine)
                self.assertEqual(told is None, slopes(machine)[0][0] >= 0)
                if told is not None:
                    x, y = map(frac, told)
                    self.assertTrue(is_rising([x, y]))
                    self.assertGreater(f(x), f(y))
                    self.assert_flag(True, is_fall(machine, told))
                    self.assert_flag(False, is_fall(machine, (told[1], told[0])))
                    found += 1
        self.assertGreater(found, 20)

    def test_none_just_where_there_is_none(self):
        for base in BASES:
            for points, machine in broken_machines(base, 2, 12):
                falls = any(high < low for (_, low), (_, high) in zip(points, points[1:]))
                self.assertEqual(fall(machine) is not None, falls)
            for f in (straight(Fraction(2), Fraction(-9)), straight(Fraction(0), Fraction(1)), abs):
                machine = learned(base, f)
                self.assertEqual(fall(machine) is None, f != abs)

    def test_a_fall_of_a_state_that_nothing_leads_to_is_none(self):
        self.assertIsNone(fall(joined(lined(2, (1, 1), (0, 1)), lined(2, (-1, 1), (0, 1)))))

    def test_is_fall_of_drawn_numbers(self):
        for base in BASES:
            rng = Random(base)
            for f, machine in retold_machines(base, 3):
                for _ in range(4):
                    x, y = drawn_number(rng), drawn_number(rng)
                    self.assert_flag(x < y and f(x) > f(y), is_fall(machine, (pair(x), pair(y))))

    def test_is_fall_of_wrong_things(self):
        machine = absolute_machine()
        x, y, z = (-1, 1), (-1, 2), (0, 1)
        self.assert_flag(True, is_fall(machine, (x, y)))
        self.assert_flag(True, is_fall(machine, (y, z)))
        wrong = [
            (y, x), (x, x), [x, y], (x,), (x, y, z), (x, (-2, 4)), ((-2, 2), y), ((-2, 1), y), ((-3, 2), z),
            (y, (3, 2)),
            (x, [-1, 2]), (x, None), (None, y), (x, 0), (-1, 0), x, ((-1, True), y), (x, (False, 1)), ((0, 1), (1, 1)),
            ((-1, 2), (1, 2)), ((-1, 2), (2, 3)),
        ]
        for thing in wrong + odd_things():
            self.assert_flag(False, is_fall(machine, thing))

    def test_great_bottoms(self):
        for base in BASES:
            rng = Random(20 + base)
            for f, machine in retold_machines(base, 4)[::4]:
                numbers = []
                for _ in range(3):
                    digits = tuple([rng.randrange(1 - base, base) for _ in range(48)])
                    numbers.append(worth_by_sum(base, (digits[:24], digits[24:])))
                x, y, z = sorted(numbers)
                self.assert_flag(f(x) > f(y), is_fall(machine, (pair(x), pair(y))))
                above = f(y) > f(x) + (f(z) - f(x)) * (y - x) / (z - x)
                self.assert_flag(above, is_dent(machine, (pair(x), pair(y), pair(z))))


class Dents(Case):
    def above(self, f, numbers):
        x, y, z = numbers
        return f(y) > f(x) + (f(z) - f(x)) * (y - x) / (z - x)

    def test_told_dents(self):
        found = 0
        for base in BASES:
            for f, machine in retold_machines(base, 5):
                told = dent(machine)
                if told is not None:
                    numbers = [frac(x) for x in told]
                    self.assertTrue(is_rising(numbers))
                    self.assertTrue(self.above(f, numbers))
                    self.assert_flag(True, is_dent(machine, told))
                    for other in ((told[1], told[0], told[2]), (told[0], told[2], told[1]), told[::-1]):
                        self.assert_flag(False, is_dent(machine, other))
                    found += 1
        self.assertGreater(found, 20)

    def test_none_just_where_there_is_none(self):
        for base in BASES:
            for points, machine in broken_machines(base, 6, 12):
                rises = [(high - low) / (b - a) for (a, low), (b, high) in zip(points, points[1:])]
                self.assertEqual(dent(machine) is None, rises == sorted(rises))
            rng = Random(base)
            for points, _ in broken_machines(base, 7, 6):
                # The same slopes from the least to the greatest: no dent.
                ends = [x for x, _ in points]
                rises = sorted(rng.randrange(-3, 4) for _ in ends[1:])
                hollow = [(ends[0], Fraction(0))]
                for rise, low, high in zip(rises, ends, ends[1:]):
                    hollow.append((high, hollow[-1][1] + rise * (high - low)))
                machine = retold(learned(base, broken(hollow), 60), rng)
                self.assertIsNone(dent(machine))

    def test_a_dent_of_a_state_that_nothing_leads_to_is_none(self):
        hill = learned(2, lambda x: -abs(x))
        self.assertIsNotNone(dent(hill))
        self.assertIsNone(dent(joined(absolute_machine(), hill)))

    def test_slopes_that_fall_far_apart(self):
        # Flat, steep, flat.
        for base in BASES:
            points = [(-1, 0), (0, 0), (Fraction(1, base), 1), (1, 1)]
            machine = learned(base, broken([(Fraction(x), Fraction(y)) for x, y in points]))
            self.assert_flag(True, is_dent(machine, dent(machine)))

    def test_dents_at_the_inner_end_of_one_stretch_alone(self):
        for base in BASES:
            step = Fraction(1, base)
            rises = [(2, -6, 1), (2, 9, 1), (7, -3, 6), (-1, 8, -2)]
            for one, two, three in rises:
                points = [(Fraction(-1), Fraction(0)), (-1 + step, one * step), (-1 + 2 * step, (one + two) * step)]
                points.append((Fraction(1), points[-1][1] + three * (2 - 2 * step)))
                for turned in (points, [(-x, y) for x, y in points[::-1]]):
                    told = dent(learned(base, broken(turned)))
                    self.assertTrue(self.above(broken(turned), [frac(x) for x in told]))

    def test_is_dent_of_drawn_numbers(self):
        for base in BASES:
            rng = Random(10 + base)
            for f, machine in retold_machines(base, 8):
                for _ in range(4):
                    numbers = [drawn_number(rng, 30) for _ in range(3)]
                    right = is_rising(numbers) and self.above(f, numbers)
                    self.assert_flag(right, is_dent(machine, tuple(map(pair, numbers))))
                    numbers = sorted(numbers)
                    right = is_rising(numbers) and self.above(f, numbers)
                    self.assert_flag(right, is_dent(machine, tuple(map(pair, numbers))))

    def test_is_dent_of_wrong_things(self):
        machine = learned(2, lambda x: -abs(x))
        x, y, z = (-1, 1), (0, 1), (1, 1)
        self.assert_flag(True, is_dent(machine, (x, y, z)))
        wrong = [
            (y, x, z), (x, z, y), (x, y, y), (x, x, z), [x, y, z], (x, y), (x, y, z, z), (x, (0, 2), z), (x, y, (2, 2)),
            ((-2, 1), y, z), (x, y, (2, 1)), (x, y, None), (x, [0, 1], z), (x, (False, 1), z), (0, 0, 0), (-1, 0, 1),
            ((-1, True), y, z), ((-1, 1), (-1, 2), (0, 1)), ((0, 1), (1, 2), (1, 1)), (x, (-1, 1), z),
        ]
        for thing in wrong + odd_things():
            self.assert_flag(False, is_dent(machine, thing))
        self.assert_flag(False, is_dent(absolute_machine(), (x, y, z)))


class Between(Case):
    def line_of(self, found, x, y):
        """The line of the pieces (end, slope, height) from x to y, or None."""
        start = Fraction(-1)
        for end, slope, height in found:
            if start <= x and y <= end:
                return (pair(slope), pair(height))
            start = end
        return None

    def test_numbers_at_bends_and_a_little_beside_them(self):
        for base in BASES:
            rng = Random(base)
            for points, machine in broken_machines(base, 9):
                known = broken_pieces(points)
                near = [Fraction(-1)] + [end for end, _, _ in known]
                numbers = [x + step for x in near for step in (-SMALL, 0, SMALL) if abs(x + step) <= 1]
                numbers = sorted(set(numbers + [drawn_number(rng) for _ in range(4)]))
                for k, x in enumerate(numbers):
                    for y in numbers[k + 1:]:
                        self.assertEqual(line_between(machine, pair(x), pair(y)), self.line_of(known, x, y), (x, y))

    def test_functions_with_bends_without_end(self):
        for base in BASES:
            rng = Random(30 + base)
            machine = retold(learned(base, bumps(base)), rng)
            bends = [Fraction(0)] + bump_bends(base, SMALL / 10)
            numbers = [Fraction(-1), Fraction(0), Fraction(1), -SMALL, SMALL] + bends[:8]
            numbers += [x + SMALL for x in bends[1:6] if x < 1] + [drawn_number(rng, 60) for _ in range(9)]
            numbers = sorted(set(numbers))
            for k, x in enumerate(numbers):
                for y in numbers[k + 1:]:
                    told = line_between(machine, pair(x), pair(y))
                    if any(x < bend < y for bend in bends) or x == 0:
                        self.assertIsNone(told)
                    else:
                        self.assert_line(bumps(base), x, y, told)

    def assert_line(self, f, x, y, told):
        slope, height = map(frac, told)
        for k in range(5):
            z = x + (y - x) * k / 4
            self.assertEqual(f(z), slope * z + height)

    def test_dusts(self):
        f = dust_distance(3, (-2, 2))
        machine = learned(3, f)
        for x, y, known in (
            ((-1, 3), (0, 1), ((1, 1), (1, 3))), ((0, 1), (1, 3), ((-1, 1), (1, 3))), ((-1, 3), (1, 3), None),
            ((-1, 2), (1, 2), None), ((1, 3), (1, 2), None), ((4, 9), (5, 9), None), ((4, 9), (1, 2), None),
            ((5, 9), (2, 3), ((1, 1), (-5, 9))), ((-1, 1), (-80, 81), None), ((-1, 1), (1, 1), None),
        ):
            self.assertEqual(line_between(machine, x, y), known, (x, y))

    def test_lines_and_first(self):
        for base in BASES:
            machine = lined(base, (3, 2), (7, 5))
            for x, y in (((-1, 1), (1, 1)), ((0, 1), (1, 997)), ((-1, 1), (-996, 997)), ((998, 999), (1, 1))):
                self.assertEqual(line_between(machine, x, y), ((3, 2), (7, 5)))
        machine = Machine(2, 9, absolute_machine().rows)
        self.assertEqual(line_between(machine, (-1, 1), (0, 1)), ((-1, 1), (9, 1)))

    def test_great_bottoms(self):
        for base in BASES:
            rng = Random(40 + base)
            for points, machine in broken_machines(base, 10, 3):
                numbers = []
                for _ in range(4):
                    digits = tuple([rng.randrange(1 - base, base) for _ in range(48)])
                    numbers.append(worth_by_sum(base, (digits[:24], digits[24:])))
                numbers = sorted(numbers)
                for x, y in zip(numbers, numbers[1:]):
                    told = line_between(machine, pair(x), pair(y))
                    self.assertEqual(told, self.line_of(broken_pieces(points), x, y))

    def test_errors(self):
        machine = absolute_machine()
        wrong = [(2, 1), (-3, 2), (2, 4), (True, 1), [0, 1], (0, 1, 1)] + odd_things()
        for k, thing in enumerate(wrong):
            faults = [(0, unsound_machine(), Unsound), (1, thing, NoNumber), (2, wrong[-k], NoNumber)]
            self.assert_first_error(line_between, (machine, (-1, 1), (0, 1)), faults)
        for x, y in (((0, 1), (0, 1)), ((1, 2), (0, 1)), ((1, 1), (-1, 1)), ((1, 1), (1, 1)), ((1, 2), (1, 3))):
            self.assert_error(NoNumber, line_between, machine, x, y)


class Climbs(Case):
    def test_broken_lines(self):
        for base in BASES:
            for points, machine in broken_machines(base, 11, 12):
                known = sum(abs(high - low) for (_, low), (_, high) in zip(points, points[1:]))
                self.assertEqual(climb(machine), pair(known))
            for slope in (0, 3, -7):
                self.assertEqual(climb(lined(base, (slope, 2) if slope else (0, 1), (1, 3))), (abs(slope), 1))
            self.assertEqual(climb(learned(base, saw(base, 2, 3))), (6, 1))

    def test_bends_without_end(self):
        for base in BASES:
            rng = Random(base)
            for name, f, machine in crowded(base):
                known = {"bumps": 2 * base, "both bumps": 4 * base, "high bumps": 4 * base, "low bumps": 4 * base}
                if name in known:
                    self.assertEqual(climb(retold(machine, rng)), (known[name], 1), name)
                elif "dust" in name:
                    self.assertEqual(climb(retold(machine, rng)), (2, 1), name)
        # Each bump of 4 / 2 ** k climbs halved, once at each scale.
        self.assertEqual(climb(learned(2, nested_bumps(), 60)), (4, 1))

    def test_sums_of_machines_between_bounds(self):
        # No sum of amounts is above it, and sums of ever more numbers come near it.
        for base in BASES:
            machines = [(f, machine) for _, f, machine in crowded(base)]
            for (f, one), (g, other) in zip(machines, machines[1:]):
                told = frac(climb(added(one, other)))
                last = Fraction(0)
                for many in (16, 64, 256):
                    values = [f(x) + g(x) for x in [Fraction(k, many) for k in range(-many, many + 1)]]
                    total = sum(abs(b - a) for a, b in zip(values, values[1:]))
                    self.assertLessEqual(last, total)
                    self.assertLessEqual(total, told)
                    last = total
                self.assertLess(told - last, told / 8)

    def test_unsound(self):
        self.assert_error(Unsound, climb, unsound_machine())


class Crowds(Case):
    def crowds(self, base, name, f, x):
        """Whether x is a crowd of the function of this name."""
        known = {"bumps": (0,), "both bumps": (0,), "high bumps": (1,), "low bumps": (-1,)}
        if name in known:
            return x in known[name]
        if name == "nested":
            return x == 0 or 0 < x < 1 and x.numerator == 1 and x.denominator & (x.denominator - 1) == 0
        return f(x) == 0

    def numbers(self, base, rng):
        found = [Fraction(k) for k in (-1, 0, 1)] + [Fraction(k, base ** 2) for k in range(-base ** 2, base ** 2 + 1)]
        found += [drawn_number(rng, 60) for _ in range(6)]
        for _ in range(10):
            digits = [rng.choice((1 - base, base - 1, 0)) for _ in range(8)]
            found.append(worth_by_sum(base, (digits[:4], digits[4:])))
            digits = [rng.choice((1 - base, base - 1)) for _ in range(8)]
            found.append(worth_by_sum(base, (digits[:4], digits[4:])))
        return found

    def test_is_crowd_of_functions_with_crowds(self):
        found = 0
        for base in BASES:
            rng = Random(base)
            for name, f, machine in crowded(base):
                machine = rng.choice((machine, retold(machine, rng)))
                for x in self.numbers(base, rng):
                    known = self.crowds(base, name, f, x)
                    self.assert_flag(known, is_crowd(machine, pair(x)))
                    found += known
        self.assertGreater(found, 60)

    def test_a_crowd_is_told_where_there_is_one(self):
        for base in BASES:
            rng = Random(10 + base)
            for name, f, machine in crowded(base):
                for told_so in (machine, retold(machine, rng), added(machine, learned(base, abs))):
                    told = crowd(told_so)
                    self.assertTrue(self.crowds(base, name, f, frac(told)), name)
                    self.assert_flag(True, is_crowd(told_so, told))
                    self.assertIsNone(pieces(told_so))

    def test_broken_lines_have_none(self):
        for base in BASES:
            rng = Random(20 + base)
            for points, machine in broken_machines(base, 12):
                self.assertIsNone(crowd(machine))
                for x in [x for x, _ in points] + self.numbers(base, rng)[:12]:
                    self.assert_flag(False, is_crowd(machine, pair(x)))
            self.assertIsNone(crowd(lined(base, (1, 3), (0, 1))))
            self.assertIsNone(crowd(learned(base, saw(base, 2, 3))))

    def test_a_crowd_of_a_state_that_nothing_leads_to_is_none(self):
        for base in BASES:
            for name, _, machine in crowded(base):
                other = joined(lined(base, (1, 1), (0, 1)), machine)
                self.assertIsNone(crowd(other), name)
                self.assertEqual(pieces(other), (((1, 1), (1, 1), (0, 1)),))
                other = joined(learned(base, abs), machine)
                self.assertIsNone(crowd(other), name)
                self.assertEqual(pieces(other), (((0, 1), (-1, 1), (0, 1)), ((1, 1), (1, 1), (0, 1))))

    def test_crowds_on_one_side_of_bends_alone(self):
        # Moved by a tile, the bumps begin where two stretches of first digits meet.
        for base in BASES:
            near = bumps(base)
            at = Fraction(2 - base, base)
            f = lambda x: near((x - at) / 2) * 2
            machine = learned(base, f, 60)
            self.assertEqual(crowd(machine), pair(at))
            self.assert_flag(True, is_crowd(machine, pair(at)))
            machine = learned(base, lambda x: near(max(at - x, Fraction(0)) / 2) * 2, 60)
            self.assertEqual(crowd(machine), pair(at))
            self.assert_flag(True, is_crowd(machine, pair(at)))

    def test_great_bottoms(self):
        rng = Random(5)
        for base, digits in ((3, (-2, 2)), (4, (-3, 3)), (5, (-4, 0, 4))):
            machine = learned(base, dust_distance(base, digits))
            for _ in range(5):
                row = [rng.choice(digits) for _ in range(48)]
                self.assert_flag(True, is_crowd(machine, pair(worth_by_sum(base, (row[:24], row[24:])))))
                row[30] = 1
                self.assert_flag(False, is_crowd(machine, pair(worth_by_sum(base, (row[:24], row[24:])))))

    def test_wrong_things(self):
        machine = learned(3, bumps(3))
        self.assert_flag(True, is_crowd(machine, (0, 1)))
        for thing in [(0, 2), [0, 1], (False, 1), (0, True), (0, 1, 1), (0,), 0, (2, 1), (-3, 2), "0"] + odd_things():
            self.assert_flag(False, is_crowd(machine, thing))

    def test_unsound(self):
        for f in (crowd, pieces, fall, dent, climb):
            self.assert_error(Unsound, f, unsound_machine())
        for f in (is_crowd, is_fall, is_dent):
            for thing in [(0, 1), ((-1, 1), (0, 1)), None] + odd_things():
                self.assert_error(Unsound, f, unsound_machine(), thing)


class Pieces(Case):
    def test_broken_lines(self):
        for base in BASES:
            for points, machine in broken_machines(base, 13, 16):
                known = [(pair(end), pair(slope), pair(height)) for end, slope, height in broken_pieces(points)]
                told = pieces(machine)
                self.assertEqual(told, tuple(known))
                self.assertIs(type(told), tuple)

    def test_one_piece(self):
        for base in BASES:
            self.assertEqual(pieces(lined(base, (-5, 3), (22, 7))), (((1, 1), (-5, 3), (22, 7)),))

    def test_bends_where_first_digits_meet_and_where_they_do_not(self):
        for base in BASES:
            last = Fraction(-1, base - 1) if base > 2 else Fraction(-1, 3)
            for bend in (Fraction(0), Fraction(1, base), Fraction(1, base + 1), last):
                machine = learned(base, lambda x: abs(x - bend), 60)
                known = (
                    (pair(bend), (-1, 1), pair(bend)), ((1, 1), (1, 1), pair(-bend)),
                )
                self.assertEqual(pieces(machine), known)
                self.assertEqual(pieces(retold(machine, Random(base))), known)

    def test_teeth(self):
        for base in BASES:
            told = pieces(learned(base, saw(base, 2, 3)))
            self.assertEqual(len(told), 4 * base ** 2)
            ends = [Fraction(k, 2 * base ** 2) for k in range(1 - 2 * base ** 2, 2 * base ** 2 + 1)]
            self.assertEqual([frac(end) for end, _, _ in told], ends)
            self.assertEqual([slope for _, slope, _ in told], [(3, 1), (-3, 1)] * (2 * base ** 2))

    def test_just_2000_pieces_and_more(self):
        machine = learned(2, many_pieces(4, 4), 60)
        told = pieces(machine)
        self.assertEqual(len(told), 2000)
        self.assert_pieces(many_pieces(4, 4), told)
        for one, other in ((4, 8), (16, 4), (64, 64)):
            self.assertEqual(self.assert_error(TooMany, pieces, learned(2, many_pieces(one, other), 60)).most, 2000)
        bent = lambda x: many_pieces(4, 4)(x) + max(Fraction(0), x - Fraction(511, 512))
        machine = learned(2, bent, 60)
        self.assertLess(left(machine), 60)
        self.assertEqual(self.assert_error(TooMany, pieces, machine).most, 2000)
        bent = lambda x: many_pieces(4, 4)(x) + max(Fraction(0), x - Fraction(127, 128))
        self.assertEqual(len(pieces(learned(2, bent, 60))), 2000)

    def assert_pieces(self, f, told):
        start = Fraction(-1)
        line = None
        for end, slope, height in told:
            end = frac(end)
            self.assertLess(start, end)
            self.assertNotEqual(line, (slope, height))
            for x in (start, (start + end) / 2, end):
                self.assertEqual(f(x), frac(slope) * x + frac(height))
            start, line = end, (slope, height)
        self.assertEqual(start, 1)

    def test_many_more_pieces_than_can_be_told(self):
        for base in BASES:
            deep = learned(base, saw(base, {2: 12, 3: 8, 4: 6, 5: 5}[base], 1), 60)
            self.assertEqual(self.assert_error(TooMany, pieces, deep).most, 2000)

    def test_none_where_there_is_a_crowd(self):
        for base in BASES:
            for _, f, machine in crowded(base):
                self.assertIsNone(pieces(machine))
        machine = added(learned(2, many_pieces(16, 16), 60), learned(2, bumps(2)))
        self.assertIsNone(pieces(machine))

    def test_heights_with_first(self):
        for base in BASES:
            for points, machine in broken_machines(base, 14, 2):
                higher = Machine(base, machine.first + 5, machine.rows)
                known = [(end, slope, pair(frac(height) + 5)) for end, slope, height in pieces(machine)]
                self.assertEqual(pieces(higher), tuple(known))
                self.assertEqual(floor(frac(known[0][2])), floor(frac(pieces(machine)[0][2])) + 5)


if __name__ == "__main__":
    main()
