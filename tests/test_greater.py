"""The greater and the lesser of two functions, amounts: 5.1."""

from fractions import Fraction
from random import Random
from unittest import main

from anywriting.errors import TooMany, Unsound
from anywriting.greater import amount, greater, lesser
from anywriting.least import is_least, least, left, lined
from anywriting.shapes import pieces
from anywriting.straight import steepest
from anywriting.sums import added, mirrored, raised, times
from checks import Case
from samples import (
    BASES, TooManyStates, absolute_machine, broken, bumps, crowded, drawn_broken, dust_distance, frac, joined, learned,
    nested_bumps, pair, retold, saw, sound_machines, straight, unsound_machine,
)


def told_or_none(base, f):
    """The least machine of the function, None if it has more than 400 states."""
    try:
        return learned(base, f, 400)
    except TooManyStates:
        return None


class Both(Case):
    def assert_better(self, base, f, g, one, other):
        """What is told of both machines is what is known of the functions."""
        for call, better in ((greater, max), (lesser, min)):
            known = told_or_none(base, lambda x: better(f(x), g(x)))
            if known is None:
                self.assertEqual(self.assert_error(TooMany, call, one, other).most, 400)
            else:
                self.assertEqual(call(one, other), known)
                self.assertEqual(call(other, one), known)

    def assert_laws(self, one, other):
        """Greater and lesser added are both added; what is both is none of both alone."""
        high = greater(one, other)
        low = lesser(one, other)
        self.assertEqual(added(high, low), added(one, other))
        self.assertEqual((greater(high, one), lesser(low, one)), (high, low))
        self.assertEqual((greater(low, one), lesser(high, one)), (least(one), least(one)))
        turned = greater(times(one, (-1, 1)), times(other, (-1, 1)))
        self.assertEqual(turned, times(low, (-1, 1)))
        self.assertEqual(greater(mirrored(one), mirrored(other)), mirrored(high))


class Lines(Both):
    def line(self, base, slope, height):
        return straight(Fraction(slope), Fraction(height)), lined(base, pair(slope), pair(height))

    def test_lines_that_cross_touch_or_lie_above_one_another(self):
        lines = [(1, 0), (-1, 0), (0, 0), (1, 1), (0, 1), (Fraction(1, 2), Fraction(1, 2)), (-2, Fraction(1, 3))]
        lines += [(3, -2), (0, Fraction(-1, 7)), (1, Fraction(1, 5)), (Fraction(2, 3), 0)]
        for base in BASES:
            for k in range(len(lines)):
                f, one = self.line(base, *lines[k])
                for step in (0, 1, 2, 5):
                    g, other = self.line(base, *lines[(k + step) % len(lines)])
                    self.assert_better(base, f, g, one, other)

    def test_steep_lines(self):
        for base in BASES:
            rng = Random(base)
            for lines in (((400, 0), (-399, 1)), ((400, 0), (399, 0)), ((-400, 3), (Fraction(1, 3), 0)), ((7, 1), (-400, 9))):
                (f, one), (g, other) = [self.line(base, *line) for line in lines]
                for call, better in ((greater, max), (lesser, min)):
                    try:
                        self.assert_function(call(one, other), lambda x: better(f(x), g(x)), rng, 3)
                    except TooMany:
                        self.assert_many_left(base, lambda x: better(f(x), g(x)))

    def assert_many_left(self, base, f):
        """There are more than 400 functions left behind first digits, told apart by few values."""
        marks = {}
        places = [(0, Fraction(0))]
        for level, centre in places:
            scale = base ** level
            height = scale * f(centre)
            values = [scale * f(centre + Fraction(k, 7 * scale)) for k in range(-7, 8)]
            mark = (height % 1, tuple([value - height for value in values]))
            if mark not in marks:
                marks[mark] = True
                places += [(level + 1, centre + Fraction(d, scale * base)) for d in range(1 - base, base)]
            if len(marks) > 400:
                return
        self.fail("there are at most 400")

    def test_crossings_that_no_writing_of_few_digits_has(self):
        for base in BASES:
            for slope, height in ((7, 3), (29, 17), (Fraction(13, 2), Fraction(5, 2)), (19, -18), (11, Fraction(7, 3))):
                f, one = self.line(base, slope, 0)
                g, other = self.line(base, 0, height)
                self.assert_better(base, f, g, one, other)

    def test_crossings_only_just_within_and_only_just_beyond(self):
        for base in BASES:
            for height in (Fraction(29, 30), 1, Fraction(31, 30), -1):
                f, one = self.line(base, 1, 0)
                g, other = self.line(base, 0, height)
                self.assert_better(base, f, g, one, other)
            line = lined(base, (1, 1), (0, 1))
            self.assertEqual(greater(line, lined(base, (0, 1), (1, 1))), lined(base, (0, 1), (1, 1)))
            self.assertEqual(lesser(line, lined(base, (0, 1), (1, 1))), line)

    def test_the_same(self):
        for base in BASES:
            rng = Random(base)
            for _, machine in sound_machines(base):
                for call in (greater, lesser):
                    self.assertEqual(call(machine, retold(machine, rng)), least(machine))
                self.assertEqual(greater(machine, raised(machine, (1, 1))), raised(machine, (1, 1)))
                self.assertEqual(lesser(machine, raised(machine, (1, 3))), least(machine))


class Drawn(Both):
    def test_functions(self):
        for base in BASES:
            rng = Random(base)
            chosen = sound_machines(base)
            for f, one in chosen:
                g, other = rng.choice(chosen)
                self.assert_function(greater(retold(one, rng), retold(other, rng)), lambda x: max(f(x), g(x)), rng, 4)
                self.assert_function(lesser(retold(one, rng), retold(other, rng)), lambda x: min(f(x), g(x)), rng, 4)
                self.assertEqual(greater(one, other), greater(retold(one, rng), other))
                self.assert_laws(one, other)

    def test_broken_lines(self):
        for base in BASES:
            rng = Random(10 + base)
            for _ in range(3):
                points, one = drawn_broken(base, rng)
                others, other = drawn_broken(base, rng)
                self.assert_better(base, broken(points), broken(others), one, other)

    def test_functions_bent_at_ever_nearer_places(self):
        for base in BASES:
            rng = Random(base)
            for name, f, one in crowded(base):
                for slope in (Fraction(0), Fraction(1, 2), Fraction(-2, 3), Fraction(1)):
                    # A broken line through 0, where the bends of some run together.
                    kink = broken([(Fraction(-1), Fraction(-1, 3)), (Fraction(0), Fraction(0)), (Fraction(1), slope)])
                    other = learned(base, kink, 100)
                    high = greater(one, other)
                    self.assert_function(high, lambda x: max(f(x), kink(x)), rng, 4)
                    self.assert_laws(one, other)
                self.assert_laws(one, rng.choice(crowded(base))[2])

    def test_what_is_known_of_bumps(self):
        for base in BASES:
            near = bumps(base, True)
            machine = learned(base, near)
            self.assert_better(base, near, straight(Fraction(1, 4), 0), machine, lined(base, (1, 4), (0, 1)))
            self.assert_better(base, near, lambda x: -near(x), machine, times(machine, (-1, 1)))
        self.assert_better(2, nested_bumps(), bumps(2), learned(2, nested_bumps()), learned(2, bumps(2)))

    def test_steepest_up_to_400(self):
        for base in BASES:
            rng = Random(base)
            machines = [lined(base, (400, 1), (0, 1)), lined(base, (-399, 1), (1, 2))]
            machines += [amount(lined(base, (400, 1), (1, 3)))]
            for _, _, machine in crowded(base):
                many = 400 // max(1, int(frac(steepest(machine))))
                machines.append(times(machine, (many, 1)))
            told = 0
            for one in machines:
                for other in (rng.choice(machines), added(one, lined(base, (-1, 7), (0, 1)))):
                    if frac(steepest(other)) <= 400 and self.are_told(one, other):
                        told += 1
                        self.assert_laws(one, other)
            self.assertGreaterEqual(told, 4)

    def are_told(self, one, other):
        try:
            return left(greater(one, other)) <= 400 and left(lesser(one, other)) <= 400
        except TooMany:
            return False


class Amount(Both):
    def test_amounts(self):
        for base in BASES:
            rng = Random(base)
            for f, machine in sound_machines(base):
                found = amount(retold(machine, rng))
                self.assert_function(found, lambda x: abs(f(x)), rng, 4)
                self.assertEqual(found, greater(machine, times(machine, (-1, 1))))
                self.assertEqual(found, amount(found))
                self.assertEqual(found, amount(times(machine, (-1, 1))))

    def test_corners_at_0(self):
        for base in BASES:
            line = lined(base, (1, 1), (0, 1))
            found = amount(line)
            self.assertEqual(pieces(found), (((0, 1), (-1, 1), (0, 1)), ((1, 1), (1, 1), (0, 1))))
            self.assertEqual(left(found), 3)
            self.assertEqual(greater(line, lined(base, (0, 1), (0, 1))), times(added(line, found), (1, 2)))
            teeth = saw(base, 1, 2)
            self.assertEqual(amount(learned(base, lambda x: teeth(x) - 1)), learned(base, lambda x: 1 - teeth(x)))

    def test_amounts_of_dusts(self):
        f = dust_distance(3, (-2, 2))
        machine = learned(3, f)
        self.assertEqual(amount(machine), machine)
        self.assertEqual(amount(added(machine, lined(3, (0, 1), (-1, 9)))), learned(3, lambda x: abs(f(x) - Fraction(1, 9))))


class ManyStates(Both):
    def test_amounts_of_parts(self):
        for base in BASES:
            line = lined(base, (1, 1), (0, 1))
            part = times(times(line, (1, 20)), (1, 9))
            self.assertEqual((left(part), left(amount(part))), (180, 361))
            part = times(times(line, (1, 20)), (1, 10))
            self.assertEqual(left(part), 200)
            self.assertEqual(self.assert_error(TooMany, amount, part).most, 400)
            self.assert_error(TooMany, greater, part, times(part, (-1, 1)))
            self.assert_error(TooMany, lesser, part, times(part, (-1, 1)))

    def test_just_400_states(self):
        for base in BASES:
            line = lined(base, (1, 1), (0, 1))
            part = times(times(line, (1, 20)), (1, 20))
            self.assertEqual(left(part), 400)
            for call, side in ((greater, 1), (lesser, -1)):
                self.assertEqual(call(part, lined(base, (0, 1), (-side, 1))), part)
                self.assertEqual(call(part, raised(part, (-side, 1))), part)
                self.assert_error(TooMany, call, part, lined(base, (0, 1), (0, 1)))

    def test_a_ring_of_1260_pairs(self):
        # Where they lie above one another, only the states of one are left.
        for base in BASES:
            one = lined(base, (1, 35), (1, 1))
            other = lined(base, (1, 36), (0, 1))
            self.assertEqual(greater(one, other), one)
            self.assertEqual(lesser(one, other), other)
            self.assert_error(TooMany, added, one, other)

    def test_a_crossing_with_a_long_round(self):
        for base in BASES:
            one = lined(base, (400, 1), (1, 29))
            other = lined(base, (-399, 1), (1, 23))
            self.assertEqual(self.assert_error(TooMany, greater, one, other).most, 400)
            self.assert_error(TooMany, lesser, one, other)


class Errors(Case):
    def test_two_machines(self):
        for call in (greater, lesser):
            self.assert_two_machines_asked(call, lambda base: lined(base, (1, 2), (0, 1)))

    def test_unsound_ahead_of_too_many(self):
        bad = unsound_machine()
        part = times(times(lined(2, (1, 1), (0, 1)), (1, 20)), (1, 10))
        self.assert_error(Unsound, amount, bad)
        self.assert_error(Unsound, amount, joined(part, bad))
        for call in (greater, lesser):
            self.assert_error(Unsound, call, joined(part, bad), times(part, (-1, 1)))
            self.assert_error(Unsound, call, times(part, (-1, 1)), joined(part, bad))

    def test_nothing_is_changed(self):
        v = absolute_machine()
        line = lined(2, (1, 3), (1, 7))
        for call in (greater, lesser):
            found = self.assert_unchanged(call, v, line)
            self.assertEqual(found, call(v, line))
            self.assert_flag(True, is_least(found))
            self.assert_unchanged(call, v, unsound_machine())
        self.assert_unchanged(amount, line)
        self.assert_unchanged(amount, unsound_machine())


if __name__ == "__main__":
    main()
