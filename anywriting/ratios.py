"""Reckoning with fractions: pairs (top, bottom) in lowest terms, bottom above 0."""

from math import gcd, lcm


def reduced(top, bottom):
    """The fraction that is top divided by bottom, an integer above 0."""
    common = gcd(top, bottom)
    return (top // common, bottom // common)


def plus(one, other):
    return reduced(one[0] * other[1] + other[0] * one[1], one[1] * other[1])


def minus(one, other):
    return reduced(one[0] * other[1] - other[0] * one[1], one[1] * other[1])


def product_of(one, other):
    return reduced(one[0] * other[0], one[1] * other[1])


def quotient(one, other):
    """One divided by other, which is above 0."""
    return reduced(one[0] * other[1], one[1] * other[0])


def size_of(one):
    return (abs(one[0]), one[1])


def is_below(one, other):
    return one[0] * other[1] < other[0] * one[1]


def floor_of(one):
    return one[0] // one[1]


def ceiling_of(one):
    return -(-one[0] // one[1])


def ascending(fractions):
    """The fractions by their size, each once."""
    common = 1
    for fraction in fractions:
        common = lcm(common, fraction[1])
    sizes = {fraction[0] * (common // fraction[1]): fraction for fraction in fractions}
    return [sizes[size] for size in sorted(sizes)]


def line_through(low, height_low, high, height_high):
    """The pair (slope, height) of the line that has these heights at the numbers low and high."""
    slope = quotient(minus(height_high, height_low), minus(high, low))
    return (slope, minus(height_low, product_of(slope, low)))


def height_at(line, x):
    """How high the line, a pair (slope, height), is at x."""
    return plus(product_of(line[0], x), line[1])


def whole(base, digits):
    """The digits, integers of any size, read as one integer to the base."""
    # Halves are joined rather than one digit after the other: long rows stay quick so.
    parts = list(digits)
    weight = base
    while len(parts) > 1:
        if len(parts) & 1:
            parts = [0] + parts
        parts = [parts[k] * weight + parts[k + 1] for k in range(0, len(parts), 2)]
        weight = weight * weight
    return parts[0] if len(parts) == 1 else 0


def power(base, many):
    """The base, so many times multiplied."""
    result = 1
    square = base
    left = many
    while left > 0:
        if left & 1:
            result = result * square
        square = square * square
        left = left >> 1
    return result


def worth_of(base, ahead, again):
    """The worth to the base of the integers ahead and then those again and again."""
    turn = power(base, len(again)) - 1
    top = whole(base, ahead) * turn + whole(base, again)
    return reduced(top, power(base, len(ahead)) * turn)
