"""The rows of dusts of all numbers from one to another, of few unlike pictures (7.2).

Behind each tuple of digits only the numbers up to 1 from it can be written. So what is to be written is cut into keys
(low, high): one for each end, as few unlike ones as there can be, and those between the ends all alike. There are
several ways to cut; by most of them the ends have as many keys, but how many pictures both ends are in, and how many
are at -1 and 1, is unlike.
"""

from anywriting.pictures import MOST_PICTURES, seen_within
from anywriting.ratios import ceiling_of, floor_of, is_below, reduced
from anywriting.webs import folded, web_from, web_within


class Cuts:
    """Between the ends the key is the same for each integer: the pair of the integers low and high.

    Where both ends lie in one piece, it is taken from the integer below it (lean -1), above it (1), or nearer to 0.
    """

    def __init__(self, base, low, high, lean):
        self.base = base
        self.low = low
        self.high = high
        self.lean = lean

    def pairs(self, key):
        low, high = key
        below = floor_of((self.base * low[0], low[1]))
        above = ceiling_of((self.base * high[0], high[1]))
        if above - below <= 1:
            first = last = digit_near(self.base, self.leaning(low, below, above))
        else:
            first = digit_near(self.base, below - self.low)
            last = digit_near(self.base, above - self.high)
        found = []
        for digit in range(first, last + 1):
            start = rest(self.base, low, digit) if digit == first else (self.low, 1)
            end = rest(self.base, high, digit) if digit == last else (self.high, 1)
            found.append((digit, (start, end)))
        return found

    def leaning(self, low, below, above):
        """The integer from which a piece between these two is taken."""
        if self.lean != 0:
            return below if self.lean < 0 else above
        return below if low[0] >= 0 else above


class Tiled:
    """Of the tiles alone: between the ends all lies from -1 to 1 of each second integer."""

    def __init__(self, base):
        self.base = base

    def pairs(self, key):
        low, high = key
        found = []
        touched = []
        for tile in range(1 - self.base, self.base, 2):
            start = nearer(rest(self.base, low, tile), 1)
            end = nearer(rest(self.base, high, tile), -1)
            if is_below(start, end):
                found.append((tile, (start, end)))
            elif start == end:
                touched.append((tile, (start, end)))
        # A number on the border of two tiles is written by one of them, unless it is beside others already.
        return found if len(found) > 0 else touched[:1]


class Shifted:
    """Pieces of length 1 that end (side 1) or begin (side -1) where the end of this side does.

    So they are as many as its unlike remainders, but this end needs no keys of its own.
    """

    def __init__(self, base, side):
        self.base = base
        self.side = side

    def pairs(self, key):
        if self.side > 0:
            return self.cut(key[0], key[1])
        turned = self.cut(turned_over(key[1]), turned_over(key[0]))
        return [(-digit, (turned_over(end), turned_over(start))) for digit, (start, end) in turned]

    def cut(self, low, high):
        """The pieces that end where high does, less so many integers."""
        last = digit_near(self.base, ceiling_of((self.base * high[0], high[1])) - 1)
        end = rest(self.base, high, last)
        # Of the pieces from end - 1 to end, the first one is the one that the low end is in.
        top = self.base * low[0] * end[1] - end[0] * low[1]
        first = min(last, max(1 - self.base, top // (low[1] * end[1]) + 1))
        found = [(first, (rest(self.base, low, first), end))]
        for digit in range(first + 1, last + 1):
            found.append((digit, ((end[0] - end[1], end[1]), end)))
        return found


def digit_near(base, integer):
    return max(1 - base, min(base - 1, integer))


def rest(base, number, digit):
    """What is still to be written of the number behind the digit."""
    return reduced(base * number[0] - digit * number[1], number[1])


def nearer(number, bound):
    """The number, or -1 (bound 1) if it is below it, or 1 (bound -1) if it is above it."""
    end = (-bound, 1)
    outer = is_below(number, end) if bound > 0 else is_below(end, number)
    return end if outer else number


def turned_over(number):
    return (-number[0], number[1])


def cuttings(base):
    """The ways to cut, the plainest one ahead."""
    found = [Cuts(base, -1, 1, 0)]
    for low, high in ((0, 1), (-1, 0), (-1, 1)):
        found.extend([Cuts(base, low, high, -1), Cuts(base, low, high, 1)])
    return found + [Tiled(base), Shifted(base, 1), Shifted(base, -1)]


def rows_between(base, x, y):
    """The rows of a dust of all numbers from x to y, of at most 2000 pictures if one of the ways to cut tells so."""
    guides = cuttings(base)
    plainest = folded(web_from((x, y), guides[0]), (x, y))
    if len(plainest) > MOST_PICTURES or seen_within(base, plainest, MOST_PICTURES) is not None:
        return plainest
    for guide in guides[1:]:
        web = web_within((x, y), guide, MOST_PICTURES)
        if web is not None:
            rows = folded(web, (x, y))
            if seen_within(base, rows, MOST_PICTURES) is not None:
                return rows
    return plainest
