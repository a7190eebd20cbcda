"""The most and the least that machines make, prices: 6.1."""

from fractions import Fraction
from itertools import product
from random import Random
from unittest import main

from anywriting.greater import amount
from anywriting.least import lined
from anywriting.machines import Machine
from anywriting.most import greatest, is_prices, lowest, prices
from anywriting.shapes import pieces
from anywriting.sums import times
from anywriting.writings import is_writing
from checks import Case
from samples import (
    BASES, absolute_machine, broken, bumps, deep, drawn_broken, drawn_machine, drawn_writing, frac, joined, learned,
    made_by_sum, makes_by_sum, odd_things, pair, retold, sound_machines, unsound_machine, worth_by_sum,
)


def negative(machine):
    rows = tuple([tuple([(-told, after) for told, after in row]) for row in machine.rows])
    return Machine(machine.base, -machine.first, rows)


def all_machines(base):
    """Machines of one to eight states, most of them unsound, integers of all sizes."""
    rng = Random(base)
    found = [drawn_machine(base, states, rng, size) for states in range(1, 9) for size in (1, 3, 10 ** 12 - 1)]
    found += [machine for _, machine in sound_machines(base)[::3]]
    return found + [retold(machine, rng) for _, machine in sound_machines(base)[::4]]


def best_by_all_choices(machine, state):
    """The greatest of what a state makes of the writings that choose one digit for each state."""
    digits = range(1 - machine.base, machine.base)
    best = None
    for chosen in product(digits, repeat=len(machine.rows)):
        told = [machine.rows[k][digit + machine.base - 1] for k, digit in enumerate(chosen)]
        seen = {}
        row = []
        at = state
        while at not in seen:
            seen[at] = len(row)
            row.append(told[at][0])
            at = told[at][1]
        made = worth_by_sum(machine.base, (row[:seen[at]], row[seen[at]:]))
        best = made if best is None else max(best, made)
    return best


def chain(base, items):
    """State 0 may stay and tell 1 for ever, or go through states that tell the items, the last one for ever."""
    many = len(items)
    rows = [((1, 0),) * (base - 1) + ((items[0], 1),) * base]
    for k in range(1, many):
        rows.append(((items[k], min(k + 1, many - 1)),) * (2 * base - 1))
    return Machine(base, 0, tuple(rows))


class Greatest(Case):
    def assert_extremes(self, machine, rng):
        """Each writing makes just what is told, and no drawn one makes more or less."""
        high, above = greatest(machine)
        low, below = lowest(machine)
        for told, writing in ((high, above), (low, below)):
            self.assert_flag(True, is_writing(machine.base, writing))
            self.assertEqual(told, pair(made_by_sum(machine, writing)))
        for _ in range(10):
            made = made_by_sum(machine, drawn_writing(machine.base, rng, 5))
            self.assertLessEqual(frac(low), made)
            self.assertLessEqual(made, frac(high))
        self.assertEqual(greatest(negative(machine))[0], pair(-frac(low)))
        self.assertEqual(lowest(negative(machine))[0], pair(-frac(high)))
        self.assert_optimal(machine, high)

    def assert_optimal(self, machine, high):
        """The prices are the only ones that for each state are just what its best digit tells and leads to."""
        told = [frac(price) for price in prices(machine)]
        for state, row in enumerate(machine.rows):
            self.assertEqual(machine.base * told[state], max([item + told[after] for item, after in row]))
        self.assertEqual(high, pair(machine.first + told[0]))

    def test_machines_sound_or_not(self):
        for base in BASES:
            rng = Random(base)
            for machine in all_machines(base):
                self.assert_extremes(machine, rng)

    def test_against_all_choices(self):
        for base, most in ((2, 4), (3, 3), (4, 2), (5, 2)):
            rng = Random(base)
            for states in range(1, most + 1):
                for size in (1, 4, 10 ** 12 - 1):
                    machine = drawn_machine(base, states, rng, size)
                    for state, price in enumerate(prices(machine)):
                        self.assertEqual(frac(price), best_by_all_choices(machine, state))
                    self.assertEqual(frac(greatest(machine)[0]), machine.first + best_by_all_choices(machine, 0))
                    least = -best_by_all_choices(negative(machine), 0)
                    self.assertEqual(frac(lowest(machine)[0]), machine.first + least)

    def test_chains_nearly_worth_a_state_that_stays(self):
        for base in BASES:
            stays = Fraction(1, base - 1)
            for many in (1, 2, 7, 12):
                for last in (0, 1, 2):
                    machine = chain(base, [1] * many + [last])
                    made = max(stays, worth_by_sum(base, ([1] * many, [last])))
                    high, writing = greatest(machine)
                    self.assertEqual((frac(high), made_by_sum(machine, writing)), (made, made))
                    self.assertEqual(frac(prices(machine)[0]), made)
                    low, writing = lowest(machine)
                    made = min(stays, worth_by_sum(base, ([1] * many, [last])))
                    self.assertEqual((frac(low), made_by_sum(machine, writing)), (made, made))
                # Much at first, and all of it, or but a little less or more, given back behind.
                tall = chain(base, [10 ** 11] + [0] * many + [-10 ** 11 * (base - 1) * base ** many + 7])
                self.assert_extremes(tall, Random(base))

    def test_functions(self):
        for base in BASES:
            rng = Random(base)
            for _ in range(4):
                points, machine = drawn_broken(base, rng)
                heights = [y for _, y in points]
                high, above = greatest(retold(machine, rng))
                low, below = lowest(retold(machine, rng))
                self.assertEqual((frac(high), frac(low)), (max(heights), min(heights)))
                f = broken(points)
                self.assertEqual(f(worth_by_sum(base, above)), max(heights))
                self.assertEqual(f(worth_by_sum(base, below)), min(heights))
            near = bumps(base)
            top = Fraction(base + 1, 2 * base)
            self.assertEqual(greatest(learned(base, near))[0], pair(near(top)))
            self.assertEqual(lowest(learned(base, near))[0], (0, 1))

    def test_a_machine_of_many_states(self):
        for base in BASES:
            line = times(times(lined(base, (1, 1), (0, 1)), (1, 20)), (1, 20))
            self.assertEqual(greatest(line), ((1, 400), ((), (base - 1,))))
            self.assertEqual(lowest(line), ((-1, 400), ((), (1 - base,))))
            corner = amount(lined(base, (1, 29), (1, 2)))
            self.assertEqual(greatest(corner)[0], pair(Fraction(1, 29) + Fraction(1, 2)))
            self.assertEqual(pieces(corner)[-1][1], (1, 29))

    def test_nothing_is_changed(self):
        for machine in (absolute_machine(), unsound_machine()):
            for f in (greatest, lowest, prices):
                found = self.assert_unchanged(f, machine)
                self.assertEqual(found, f(machine))


class Prices(Case):
    def test_what_is_told_and_what_is_higher(self):
        for base in BASES:
            rng = Random(base)
            for machine in all_machines(base):
                told = prices(machine)
                self.assertIs(type(told), tuple)
                self.assert_flag(True, is_prices(machine, told))
                for more in (Fraction(1, 10 ** 9), Fraction(1, 7), 5, 10 ** 14):
                    higher = tuple([pair(frac(price) + more) for price in told])
                    self.assert_flag(True, is_prices(machine, higher))
                state = rng.randrange(len(told))
                mixed = list(told)
                mixed[state] = pair(frac(told[state]) + Fraction(1, 10 ** 9))
                others = [k for k, row in enumerate(machine.rows) if state in [after for _, after in row]]
                tight = any([self.is_tight(machine, mixed, k) for k in others])
                self.assert_flag(not tight, is_prices(machine, tuple(mixed)))

    def is_tight(self, machine, told, state):
        return any([machine.base * frac(told[state]) < item + frac(told[after]) for item, after in machine.rows[state]])

    def test_a_little_lower(self):
        for base in BASES:
            for machine in all_machines(base):
                told = prices(machine)
                for state in range(len(told)):
                    for less in (Fraction(1, 10 ** 20), 1, 10 ** 13):
                        lower = told[:state] + (pair(frac(told[state]) - less),) + told[state + 1:]
                        self.assert_flag(False, is_prices(machine, lower))
                lower = tuple([pair(frac(price) - Fraction(1, 10 ** 30)) for price in told])
                self.assert_flag(False, is_prices(machine, lower))

    def test_states_that_nothing_leads_to_have_a_price(self):
        for base in BASES:
            one = drawn_machine(base, 2, Random(base))
            other = drawn_machine(base, 3, Random(base + 1))
            both = joined(one, other)
            self.assertEqual(prices(both), prices(one) + prices(other))
            self.assert_flag(False, is_prices(both, prices(one)))
            self.assert_flag(False, is_prices(both, prices(one) + ((-10 ** 9, 1),) * 3))

    def test_prices_bar_all_that_is_greater(self):
        for base in BASES:
            rng = Random(base)
            machine = drawn_machine(base, 5, rng, 50)
            told = prices(machine)
            for _ in range(30):
                state = rng.randrange(5)
                self.assertLessEqual(makes_by_sum(machine, state, drawn_writing(base, rng, 5)), frac(told[state]))

    def test_what_are_none(self):
        v = absolute_machine()
        told = prices(v)
        self.assertEqual(told, ((1, 1), (1, 1), (1, 1)))
        wrong = [told[:2], told + ((1, 1),), (), list(told), [list(price) for price in told], {0: told}, "111", None]
        wrong += [(told,), (told, told, told), ((1, 1), (1, 1), [1, 1]), ((2, 2), (1, 1), (1, 1)), (1, 1, 1)]
        wrong += [((1, 1), (True, 1), (1, 1)), ((1, 1), (1, True), (1, 1)), ((1, 1), (-1, -1), (1, 1))]
        wrong += [((1, 0),) * 3, ((9, 1), (9, 1), (9, 1, 1)), (("1", 1),) * 3, deep((), 38), (deep((), 30),) * 3]
        wrong += [((deep(1, 30), 1),) * 3, v, (v, v, v)]
        for machine in (v, unsound_machine(), Machine(2, 0, (((0, 0), (0, 0), (1, 0)),))):
            for thing in odd_things() + wrong:
                if thing != prices(machine):
                    self.assert_flag(False, is_prices(machine, thing))
            for thing in odd_things():
                others = prices(machine)[:-1]
                self.assert_flag(False, is_prices(machine, others + (thing,)))


if __name__ == "__main__":
    main()
