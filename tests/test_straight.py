"""Straight states, roads and slopes: 4.1 and 4.2."""

from fractions import Fraction
from itertools import product
from random import Random
from unittest import main

from anywriting.errors import NoMany, NoState, Unsound
from anywriting.least import lined
from anywriting.machines import Machine
from anywriting.straight import line, road, rough, slopes, steepest
from checks import Case
from samples import (
    BASES, absolute_machine, broken, changed, drawn_number, dust_distance, frac, joined, learned, line_by_values,
    odd_things, pair, retold, saw, sound_machines, straight, unsound_machine, ways_to_states,
)


def machines(base, seed):
    """Pairs of a function and a machine that tells it, some with states that nothing leads to."""
    rng = Random(300 * base + seed)
    found = []
    for f, machine in sound_machines(base):
        found.append((f, retold(machine, rng)))
        if len(machine.rows) < 9:
            other = learned(base, straight(Fraction(77), Fraction(1, 2)))
            found.append((f, joined(machine, other)))
    return found


def known_lines(machine):
    return [line_by_values(machine, state) for state in range(len(machine.rows))]


def first_road(machine, lines, state):
    """Fewest digits to a state with a line, and of these the least: all tuples of digits in their order."""
    for many in range(12):
        for digits in product(range(1 - machine.base, machine.base), repeat=many):
            at = state
            for digit in digits:
                at = machine.rows[at][digit + machine.base - 1][1]
            if lines[at] is not None:
                return digits
    raise AssertionError(machine)


class Lines(Case):
    def test_lines_and_roads_of_all_states(self):
        for base in BASES:
            for _, machine in machines(base, 1):
                lines = known_lines(machine)
                for state, known in enumerate(lines):
                    told = line(machine, state)
                    self.assertEqual(told, None if known is None else (pair(known[0]), pair(known[1])))
                    self.assertEqual(road(machine, state), first_road(machine, lines, state))

    def test_a_state_that_nothing_leads_to(self):
        machine = joined(absolute_machine(), lined(2, (7, 3), (1, 2)))
        self.assertEqual(line(machine, 3), ((7, 3), (1, 2)))
        self.assertIsNone(line(machine, 0))
        self.assertEqual(road(machine, 3), ())
        self.assertEqual(road(machine, 0), (-1,))

    def test_a_bend_on_a_short_stretch(self):
        # A line but for a little tooth far behind the first digits.
        for base in BASES:
            far = Fraction(2, base ** 4)
            points = [(Fraction(-1), Fraction(0)), (1 - far, Fraction(0)), (1 - far / 2, far)]
            points.append((Fraction(1), Fraction(0)))
            machine = learned(base, broken(points), 24, 4)
            self.assertIsNone(line(machine, 0))
            self.assertEqual(set(slopes(machine)), {(0, 1), (2, 1), (-2, 1)})

    def test_the_height_is_that_of_the_state(self):
        machine = Machine(2, 50, absolute_machine().rows)
        self.assertEqual(line(machine, 1), ((1, 1), (0, 1)))
        self.assertEqual(line(machine, 2), ((-1, 1), (0, 1)))

    def test_errors(self):
        machine = absolute_machine()
        for thing in [-1, 3, 4, True, False, None, "0", (0,), [], 10 ** 20] + odd_things():
            if type(thing) is int and 0 <= thing < 3:
                continue
            for f in (line, road):
                self.assert_first_error(f, (machine, 2), [(0, unsound_machine(), Unsound), (1, thing, NoState)])


class Slopes(Case):
    def test_slopes_of_the_states_that_can_be_come_to(self):
        for base in BASES:
            for f, machine in machines(base, 2):
                lines = known_lines(machine)
                met = {lines[state][0] for state in ways_to_states(machine) if lines[state] is not None}
                self.assertEqual(slopes(machine), tuple([pair(slope) for slope in sorted(met)]))
                self.assertEqual(steepest(machine), pair(max(abs(slope) for slope in met)))

    def test_no_two_values_are_further_apart(self):
        for base in BASES:
            rng = Random(base)
            for f, machine in sound_machines(base):
                most = frac(steepest(machine))
                for _ in range(20):
                    x, y = drawn_number(rng, 40), drawn_number(rng, 40)
                    self.assertLessEqual(abs(f(x) - f(y)), most * abs(x - y))

    def test_slopes_by_their_size(self):
        points = [(-1, 0), (Fraction(-1, 2), 1), (0, Fraction(1, 4)), (Fraction(1, 2), Fraction(1, 2)), (1, 1)]
        machine = learned(2, broken([(Fraction(x), Fraction(y)) for x, y in points]))
        self.assertEqual(slopes(machine), ((-3, 2), (1, 2), (1, 1), (2, 1)))
        self.assertEqual(steepest(machine), (2, 1))
        self.assertEqual(steepest(lined(3, (-7, 2), (0, 1))), (7, 2))
        self.assertEqual(slopes(lined(3, (0, 1), (1, 2))), ((0, 1),))
        self.assertEqual(steepest(lined(3, (0, 1), (1, 2))), (0, 1))

    def test_other_slopes_that_nothing_leads_to(self):
        machine = joined(absolute_machine(), lined(2, (9, 1), (0, 1)))
        self.assertEqual(slopes(machine), ((-1, 1), (1, 1)))
        self.assertEqual(steepest(machine), (1, 1))

    def test_unsound(self):
        for f in (slopes, steepest):
            self.assert_error(Unsound, f, unsound_machine())
            self.assert_error(Unsound, f, changed(lined(2, (1, 1), (0, 1)), Random(1)))


class Rough(Case):
    def test_against_all_tuples_of_tiles(self):
        for base in BASES:
            for _, machine in machines(base, 3):
                lines = known_lines(machine)
                for many in range(5 if base < 4 else 4):
                    count = 0
                    for tiles in product(range(1 - base, base, 2), repeat=many):
                        at = 0
                        for tile in tiles:
                            at = machine.rows[at][tile + base - 1][1]
                        count += lines[at] is None
                    self.assertEqual(rough(machine, many), count)

    def test_1000_tiles(self):
        self.assertEqual(rough(learned(3, abs), 1000), 1)
        self.assertEqual(rough(learned(2, abs), 1000), 0)
        self.assertEqual(rough(lined(5, (1, 1), (0, 1)), 1000), 0)
        dust = learned(3, dust_distance(3, (-2, 2)))
        self.assertEqual(rough(dust, 1000), 2 ** 1001 - 1)
        self.assertEqual([rough(dust, many) for many in range(4)], [1, 3, 7, 15])
        self.assertEqual(rough(learned(2, saw(2, 2, 3)), 2), 4)

    def test_errors(self):
        for thing in [-1, 1001, True, None, False, "1", (1,)] + odd_things():
            if type(thing) is not int or not 0 <= thing <= 1000:
                wrong = [(0, unsound_machine(), Unsound), (1, thing, NoMany)]
                self.assert_first_error(rough, (absolute_machine(), 3), wrong)


if __name__ == "__main__":
    main()
