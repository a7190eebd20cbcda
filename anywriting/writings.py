"""Fractions, rows, and the writings of a number (1.1 to 1.3)."""

from math import gcd

from anywriting.errors import NoBase, NoMany, NoNumber, NoRow, TooMany
from anywriting.kinds import are_digits, are_integers, is_base, is_integer, is_integer_within, is_tuple_of
from anywriting.ratios import worth_of

MOST_BEGINNINGS = 2000
MOST_DIGITS = 1000


def is_fraction(thing):
    if not is_tuple_of(thing, 2):
        return False
    top, bottom = thing
    return is_integer(top) and is_integer(bottom) and bottom > 0 and gcd(top, bottom) == 1


def is_number(thing):
    """Whether the thing is a fraction from -1 to 1."""
    return is_fraction(thing) and abs(thing[0]) <= thing[1]


def is_row(thing):
    return is_tuple_of(thing, 2) and are_integers(thing[0]) and are_integers(thing[1]) and len(thing[1]) > 0


def is_row_of_digits(base, thing):
    return is_row(thing) and are_digits(base, thing[0]) and are_digits(base, thing[1])


def check_base(thing):
    if not is_base(thing):
        raise NoBase()


def check_number(thing):
    if not is_number(thing):
        raise NoNumber()


def check_many(thing):
    if not is_integer_within(thing, 0, MOST_DIGITS):
        raise NoMany()


def check_row(thing):
    if not is_row(thing):
        raise NoRow()


def worth(base, row):
    check_base(base)
    check_row(row)
    return worth_of(base, row[0], row[1])


def is_writing(base, thing):
    check_base(base)
    return is_row_of_digits(base, thing)


def neat(row):
    check_row(row)
    return shortest(tuple(row[0]), tuple(row[1]))


def shortest(ahead, again):
    """The neat row of the same integers as those ahead and then those again and again."""
    again = again[:shortest_turn(again)]
    spare = 0
    while spare < len(ahead) and ahead[-1 - spare] == again[-1 - spare % len(again)]:
        spare += 1
    cut = len(again) - spare % len(again)
    return (ahead[:len(ahead) - spare], again[cut:] + again[:cut])


def shortest_turn(again):
    """How long the shortest tuple is that, gone through again and again, is the same."""
    many = len(again)
    for length in range(1, many):
        if many % length == 0 and again[:length] * (many // length) == again:
            return length
    return many


def written(base, x):
    check_base(base)
    check_number(x)
    return least_writing(base, x)


def greatly(base, x):
    check_base(base)
    check_number(x)
    ahead, again = least_writing(base, (-x[0], x[1]))
    return (tuple([-digit for digit in ahead]), tuple([-digit for digit in again]))


def least_writing(base, x):
    """What `written` tells, of a base and a number that are right."""
    top, bottom = x
    digits = []
    places = {}
    while top not in places:
        places[top] = len(digits)
        digit = least_digit(base, top, bottom)
        digits.append(digit)
        top = base * top - digit * bottom
    start = places[top]
    return shortest(tuple(digits[:start]), tuple(digits[start:]))


def least_digit(base, top, bottom):
    """The least digit with which a writing of top divided by bottom begins."""
    return max(1 - base, -((bottom - base * top) // bottom))


def greatest_digit(base, top, bottom):
    return min(base - 1, (base * top + bottom) // bottom)


def next_digits(base, top, bottom):
    """The pairs of a digit with which a writing of top divided by bottom begins, and the top that is left."""
    low = least_digit(base, top, bottom)
    high = greatest_digit(base, top, bottom)
    return [(digit, base * top - digit * bottom) for digit in range(low, high + 1)]


def beginnings(base, x, many):
    check_base(base)
    check_number(x)
    check_many(many)
    levels = []
    tops = [x[0]]
    for _ in range(many):
        level = []
        for at, top in enumerate(tops):
            for digit, left in next_digits(base, top, x[1]):
                level.append((at, digit, left))
        # Each beginning goes on somehow, so that later levels are never smaller.
        if len(level) > MOST_BEGINNINGS:
            raise TooMany(MOST_BEGINNINGS)
        levels.append(level)
        tops = [left for at, digit, left in level]
    return [traced_back(levels, last) for last in range(len(tops))]


def traced_back(levels, last):
    """The digits that lead to the item `last` of the last level."""
    at = last
    digits = []
    for level in reversed(levels):
        at, digit, _ = level[at]
        digits.append(digit)
    return tuple(digits[::-1])


def many_beginnings(base, x, many):
    check_base(base)
    check_number(x)
    check_many(many)
    counts = {x[0]: 1}
    for _ in range(many):
        after = {}
        for top, count in counts.items():
            for _, left in next_digits(base, top, x[1]):
                after[left] = after.get(left, 0) + count
        counts = after
    return sum(counts.values())
