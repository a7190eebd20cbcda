"""Fractions, rows and writings: 1.1 to 1.3."""

from fractions import Fraction
from random import Random
from unittest import main

from anywriting.errors import NoBase, NoMany, NoNumber, NoRow, TooMany
from anywriting.writings import (
    beginnings, greatly, is_fraction, is_writing, many_beginnings, neat, worth, written,
)
from checks import Case
from samples import BASES, deep, drawn_number, drawn_writing, frac, odd_things, pair, worth_by_sum

NO_BASES = (0, 1, 6, -2, True, False, "2", None, (2,), [2], {2: 2}, 10 ** 40)


def drawn_row(rng, ahead=12, again=12, size=10 ** 15):
    one = [rng.randrange(-size + 1, size) for _ in range(rng.randrange(ahead + 1))]
    two = [rng.randrange(-size + 1, size) for _ in range(rng.randrange(1, again + 1))]
    return (tuple(one), tuple(two))


def great_numbers(base, rng, many):
    """Numbers that writings of 24 digits ahead and 24 in the round write."""
    found = []
    for _ in range(many):
        ahead = tuple([rng.randrange(1 - base, base) for _ in range(24)])
        again = tuple([rng.randrange(1 - base, base) for _ in range(24)])
        found.append(worth_by_sum(base, (ahead, again)))
    return found


def some_numbers(base, seed, many=40):
    rng = Random(seed)
    found = [Fraction(0), Fraction(1), Fraction(-1), Fraction(1, base), Fraction(1, 2), Fraction(-1, 3)]
    found += [Fraction(k, base ** 3) for k in (1, -base, base ** 3 - 1)] + [Fraction(k, 997) for k in (-996, 3, 500)]
    found += [drawn_number(rng) for _ in range(many)]
    return found + great_numbers(base, rng, 4)


def fits(base, x, digits):
    """Whether a writing of x begins with the digits."""
    for digit in digits:
        x = base * x - digit
    return abs(x) <= 1


def begun(base, x, many):
    """All tuples of so many digits with which a writing of x begins, one digit after the other."""
    found = [((), x)]
    for _ in range(many):
        found = [
            (digits + (d,), base * left - d)
            for digits, left in found for d in range(1 - base, base) if abs(base * left - d) <= 1
        ]
    return [digits for digits, _ in found]


def first_digits(row, many):
    return tuple([row[0][k] if k < len(row[0]) else row[1][(k - len(row[0])) % len(row[1])] for k in range(many)])


class Judging(Case):
    def test_fractions(self):
        for thing in ((0, 1), (1, 1), (-1, 1), (1, 2), (-7, 3), (10 ** 50, 10 ** 50 + 1), (5, 1), (2, 999)):
            self.assert_flag(True, is_fraction(thing))

    def test_what_is_no_fraction(self):
        wrong = [
            (2, 4), (0, 2), (0, 0), (3, 3), (-2, 4), (1, 0), (1, -2), (0, -1), (-1, -2), (True, 1), (0, True),
            (False, 1), (1, False), [1, 2], (1, 2, 3), (1,), (), ("1", 2), (1, "2"), (None, 1), (1, None), ((1,), 2),
            (1, (2,)), ([1], 2), 1, "1/2", None, (10 ** 40, 2 * 10 ** 40), {1: 2}, {0: 1, 1: 2},
        ]
        for thing in wrong + odd_things():
            self.assert_flag(False, is_fraction(thing))

    def test_writings(self):
        for base in BASES:
            high = base - 1
            for thing in (((), (0,)), ((high,), (-high,)), ((0, 1, -1), (1, 0)), ((), (high, -high))):
                self.assert_flag(True, is_writing(base, thing))
            rng = Random(base)
            for _ in range(20):
                self.assert_flag(True, is_writing(base, drawn_writing(base, rng, 60)))

    def test_what_is_no_writing(self):
        for base in BASES:
            wrong = [
                ((base,), (0,)), ((-base,), (0,)), ((), (base,)), ((), (0, -base)), ((), ()), ((1,), ()), ((1,),),
                ((1,), (0,), ()), [(1,), (0,)], ([1], (0,)), ((1,), [0]), ((True,), (0,)), ((1,), (False,)),
                ((1,), 0), (1, (0,)), ((None,), (0,)), ((1,), ("0",)), (((1,),), (0,)), ((1,), ((0,),)), "1:0",
                (b"", (0,)), ("", (0,)), ((), b"0"), ((), {0: 0}), ({}, (0,)), ((), (deep(0, 36),)),
            ]
            for thing in wrong + odd_things():
                self.assert_flag(False, is_writing(base, thing))

    def test_no_base_is_raised_whatever_the_thing_is(self):
        for base in NO_BASES + tuple(odd_things()):
            for thing in (((), (0,)), None, (), ((9,), (9,))):
                self.assert_error(NoBase, is_writing, base, thing)


class Rows(Case):
    def test_worth_of_drawn_rows(self):
        for base in BASES:
            rng = Random(10 + base)
            for most in (1, 3, 12, 60):
                for _ in range(8):
                    row = drawn_row(rng, most, most)
                    self.assertEqual(worth(base, row), pair(worth_by_sum(base, row)))

    def test_worth_of_plain_rows(self):
        self.assertEqual(worth(2, ((), (0,))), (0, 1))
        self.assertEqual(worth(2, ((), (1,))), (1, 1))
        self.assertEqual(worth(5, ((), (-4,))), (-1, 1))
        self.assertEqual(worth(3, ((1,), (0,))), (1, 3))
        self.assertEqual(worth(3, ((0, 0, 1), (0,))), (1, 27))
        self.assertEqual(worth(4, ((7,), (0, 0, 1))), pair(Fraction(7, 4) + Fraction(1, 4 * 63)))
        self.assertEqual(worth(2, ((10 ** 15,), (-1,))), pair(Fraction(10 ** 15, 2) - Fraction(1, 2)))

    def test_worth_is_one_however_the_row_is_told(self):
        rng = Random(3)
        for base in BASES:
            for _ in range(10):
                ahead, again = drawn_row(rng)
                told = worth(base, (ahead, again))
                self.assertEqual(worth(base, (ahead, again * 4)), told)
                self.assertEqual(worth(base, (ahead + again * 2, again)), told)
                self.assertEqual(worth(base, (ahead + again[:1], again[1:] + again[:1])), told)

    def test_neat_tells_one_row_however_it_is_told(self):
        rng = Random(4)
        for _ in range(60):
            ahead, again = drawn_row(rng, 6, 6, 2)
            told = neat((ahead, again))
            for many in (1, 2, 5):
                for later in (0, 1, 2, 7):
                    turned = (again * (later + 1))[later:later + len(again)]
                    row = (ahead + (again * 8)[:later], turned * many)
                    self.assertEqual(neat(row), told, row)

    def test_neat_is_the_shortest_ahead_and_then_the_shortest_round(self):
        rng = Random(5)
        for _ in range(150):
            row = drawn_row(rng, 5, 6, rng.choice((1, 2, 2)))
            digits = first_digits(row, 60)
            shortest = [
                (first, turn) for first in range(len(row[0]) + 1) for turn in range(1, len(row[1]) + 1)
                if all(digits[k] == digits[k + turn] for k in range(first, 60 - turn))
            ]
            first, turn = min(shortest)
            self.assertEqual(neat(row), (digits[:first], digits[first:first + turn]), row)

    def test_neat_of_long_rows(self):
        rng = Random(6)
        for _ in range(20):
            ahead, again = drawn_row(rng, 60, 60)
            self.assertEqual(neat((ahead + again, again * 3)), neat((ahead, again)))
            self.assertEqual(neat((ahead + (again[-1] + 1,), again)), (ahead + (again[-1] + 1,), again))
        self.assertEqual(neat(((1, 2, 3) * 20, (1, 2, 3) * 20)), ((), (1, 2, 3)))
        self.assertEqual(neat(((9,) + (0,) * 59, (0,) * 60)), ((9,), (0,)))

    def test_neat_tells_tuples_and_keeps_its_row(self):
        row = ((1, 0, 1), (0, 1, 0, 1))
        self.assertEqual(neat(row), ((), (1, 0)))
        self.assertEqual(row, ((1, 0, 1), (0, 1, 0, 1)))

    def test_no_row(self):
        for thing in odd_things() + [((1,), [2]), ([1], (2,)), [(1,), (2,)], ((1,), ()), ((1,), (True,))]:
            self.assert_error(NoRow, neat, thing)
            self.assert_error(NoRow, worth, 3, thing)

    def test_no_base_comes_ahead_of_no_row(self):
        for base in NO_BASES:
            self.assert_first_error(worth, (2, ((), (1,))), [(0, base, NoBase), (1, ((), ()), NoRow)])


class Writing(Case):
    def test_ends_and_0(self):
        for base in BASES:
            high = base - 1
            self.assertEqual(written(base, (1, 1)), ((), (high,)))
            self.assertEqual(written(base, (-1, 1)), ((), (-high,)))
            self.assertEqual(greatly(base, (1, 1)), ((), (high,)))
            self.assertEqual(greatly(base, (-1, 1)), ((), (-high,)))
            self.assertEqual(written(base, (0, 1)), ((-1,), (high,)))
            self.assertEqual(greatly(base, (0, 1)), ((1,), (-high,)))

    def test_each_place_has_the_least_digit_that_fits(self):
        for base in BASES:
            for x in some_numbers(base, base):
                row = written(base, pair(x))
                self.assertTrue(is_writing(base, row))
                self.assertEqual(neat(row), row)
                self.assertEqual(worth_by_sum(base, row), x)
                digits = first_digits(row, 30)
                for k in range(30):
                    least = [d for d in range(1 - base, base) if fits(base, x, digits[:k] + (d,))][0]
                    self.assertEqual(digits[k], least)

    def test_each_place_has_the_greatest_digit_that_fits(self):
        for base in BASES:
            for x in some_numbers(base, 20 + base):
                row = greatly(base, pair(x))
                self.assertTrue(is_writing(base, row))
                self.assertEqual(neat(row), row)
                self.assertEqual(worth_by_sum(base, row), x)
                digits = first_digits(row, 30)
                for k in range(30):
                    greatest = [d for d in range(1 - base, base) if fits(base, x, digits[:k] + (d,))][-1]
                    self.assertEqual(digits[k], greatest)

    def test_written_is_greatly_of_the_number_with_the_other_sign(self):
        for base in BASES:
            for x in some_numbers(base, 30 + base):
                ahead, again = greatly(base, pair(-x))
                turned = (tuple([-d for d in ahead]), tuple([-d for d in again]))
                self.assertEqual(written(base, pair(x)), turned)

    def test_errors(self):
        wrong = [(2, 1), (-3, 2), (1001, 1000), (2, 4), (True, 1), (0, True), [0, 1], (0, 1, 1), 0, "0", None, (1, 0)]
        for f in (written, greatly):
            for thing in wrong + odd_things():
                self.assert_error(NoNumber, f, 2, thing)
            for base in NO_BASES + tuple(odd_things()):
                self.assert_error(NoBase, f, base, (0, 1))
                self.assert_error(NoBase, f, base, (2, 1))


class Beginning(Case):
    def test_all_beginnings_ascending(self):
        for base in BASES:
            for x in some_numbers(base, 40 + base, 12):
                for many in (0, 1, 2, 3, 5):
                    told = beginnings(base, pair(x), many)
                    self.assertEqual(told, begun(base, x, many))
                    self.assertEqual(told, sorted(told))
                    self.assertEqual(many_beginnings(base, pair(x), many), len(told))

    def test_two_beginnings_are_at_most_2_apart(self):
        for base in BASES:
            for x in some_numbers(base, 50 + base, 8):
                told = [sum(d * base ** (5 - k) for k, d in enumerate(row)) for row in beginnings(base, pair(x), 6)]
                self.assertLessEqual(max(told) - min(told), 2)

    def test_a_new_list_each_time(self):
        one = beginnings(2, (1, 2), 1)
        one.append(5)
        self.assertEqual(beginnings(2, (1, 2), 1), [(0,), (1,)])
        self.assertEqual(beginnings(2, (1, 2), 0), [()])
        self.assertIsInstance(beginnings(2, (1, 3), 4), list)

    def test_ends_with_1000_digits(self):
        for base in BASES:
            for sign in (1, -1):
                self.assertEqual(beginnings(base, (sign, 1), 1000), [(sign * (base - 1),) * 1000])
                self.assertEqual(many_beginnings(base, (sign, 1), 1000), 1)

    def test_just_2000_beginnings_and_some_more(self):
        # 0 has 2 * many + 1 beginnings, 1 / base ** k a few less.
        found = {}
        for base in (2, 5):
            for x in [Fraction(0)] + [Fraction(1, base ** k) for k in (1, 2)]:
                for many in (998, 999, 1000):
                    found.setdefault(many_beginnings(base, pair(x), many), (base, x, many))
        base, x, many = found[2000]
        told = beginnings(base, pair(x), many)
        self.assertEqual(len(told), 2000)
        self.assertEqual(told, sorted(set(told)))
        self.assertTrue(all(fits(base, x, row) and len(row) == many for row in told))
        above = min(count for count in found if count > 2000)
        self.assertEqual(above, 2001)
        base, x, many = found[2001]
        self.assertEqual(self.assert_error(TooMany, beginnings, base, pair(x), many).most, 2000)
        self.assertEqual(self.assert_error(TooMany, beginnings, 2, (1, 3), 1000).most, 2000)

    def test_many_beginnings_of_1000_digits(self):
        for base in BASES:
            self.assertEqual(many_beginnings(base, (0, 1), 1000), 2001)
            for x in some_numbers(base, 60 + base, 3)[3::4]:
                counts = {x: 1}
                for _ in range(1000):
                    after = {}
                    for left, count in counts.items():
                        for d in range(1 - base, base):
                            if abs(base * left - d) <= 1:
                                after[base * left - d] = after.get(base * left - d, 0) + count
                    counts = after
                self.assertEqual(many_beginnings(base, pair(x), 1000), sum(counts.values()))

    def test_errors_in_their_order(self):
        no_numbers = [(2, 1), (-1001, 1000), (2, 4), (True, 1), [0, 1], (0, 1, 1), None]
        no_many = [-1, 1001, True, False, None, "1", (1,), [], 10 ** 30]
        for f in (beginnings, many_beginnings):
            for k in range(len(no_many)):
                wrong = [
                    (0, NO_BASES[k % len(NO_BASES)], NoBase), (1, no_numbers[k % len(no_numbers)], NoNumber),
                    (2, no_many[k], NoMany),
                ]
                self.assert_first_error(f, (3, (1, 3), 4), wrong)
            for thing in odd_things():
                self.assert_error(NoNumber, f, 3, thing, 4)
                if type(thing) is not int or not 0 <= thing <= 1000:
                    self.assert_error(NoMany, f, 3, (0, 1), thing)
            for many in (0, 1000):
                f(2, (1, 1), many)

    def test_too_many_comes_last(self):
        self.assert_error(NoMany, beginnings, 2, (0, 1), 1001)
        self.assert_error(TooMany, beginnings, 2, (0, 1), 1000)

    def test_the_document_of_fractions(self):
        self.assertEqual(frac(worth(2, ((1,), (0, 1)))), Fraction(2, 3))


if __name__ == "__main__":
    main()
