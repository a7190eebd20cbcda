"""How far numbers are from the nearest one in a dust, digit by digit (7.4).

A key (pairs, left, right) tells what may be nearest to the numbers behind some digits, those from -1 to 1: what is
written from the nodes of the pairs (node, k) on, and k, and the fractions left, up to -1, and right, from 1 on, of
which either may be None. Each stands for how far it is to the nearest one of all these.
"""

from anywriting.choices import played
from anywriting.ratios import floor_of, is_below, minus, plus, reduced

FAR = 3


class Nearest:
    """The row of a key, and what it makes of -1, 0 and 1, for building its least machine."""

    def __init__(self, dust):
        self.base = dust.base
        self.rows = dust.rows
        self.lows, self.highs, self.nears = reaches(dust)

    def start(self):
        return (((0, 0),), None, None)

    def row(self, key):
        return [self.step(key, digit) for digit in range(1 - self.base, self.base)]

    def step(self, key, digit):
        """The pair of the integer told and the key behind the digit."""
        pairs, left, right = key
        left = beyond(self.base, left, digit)
        right = beyond(self.base, right, digit)
        found = []
        for node, k in pairs:
            for own, after in self.rows[node]:
                gap = self.base * k + own - digit
                high = plus((gap, 1), self.highs[after])
                low = plus((gap, 1), self.lows[after])
                if is_below(high, (-1, 1)):
                    left = upper(left, high)
                elif is_below((1, 1), low):
                    right = lower(right, low)
                else:
                    found.append((after, gap))
        if len(found) > 0:
            return (0, (tuple(sorted(set(found))), kept_near(left), kept_near(right)))
        return between_two(left, right)

    def ends(self, key):
        pairs, left, right = key
        found = []
        for x in (-1, 0, 1):
            fars = [self.far(node, x - k) for node, k in pairs]
            if left is not None:
                fars.append(minus((x, 1), left))
            if right is not None:
                fars.append(minus(right, (x, 1)))
            best = fars[0]
            for far in fars[1:]:
                best = lower(best, far)
            found.append(best)
        return tuple(found)

    def far(self, node, x):
        """How far the integer x is from the nearest number that is written from the node on."""
        if x > 0:
            return minus((x, 1), self.highs[node])
        return minus(self.lows[node], (x, 1)) if x < 0 else self.nears[node]


def reaches(dust):
    """For each node the least and the greatest number, and how near to 0 the nearest one is."""
    many = len(dust.rows)
    lows = [[(own, after) for own, after in row] for row in dust.rows]
    highs = [[(-own, many + after) for own, after in row] for row in dust.rows]
    nears = [[near_move(many, own, after) for own, after in row] for row in dust.rows]
    moves = lows + highs + nears
    worths = played(dust.base, moves, [-1] * len(moves))[1]
    return worths[:many], [(-top, bottom) for top, bottom in worths[many:2 * many]], worths[2 * many:]


def near_move(many, own, after):
    """The pair (told, next) for what is nearest to 0 among all that goes on with this digit."""
    if own == 0:
        return (0, 2 * many + after)
    return (own, after) if own > 0 else (-own, many + after)


def beyond(base, number, digit):
    return None if number is None else reduced(base * number[0] - digit * number[1], number[1])


def upper(one, other):
    """The greater one of two fractions; one may be None."""
    return other if one is None or is_below(one, other) else one


def lower(one, other):
    """The lesser one of two fractions; one may be None."""
    return other if one is None or is_below(other, one) else one


def kept_near(number):
    """The number, or None where any number from -1 to 1 is as near to all others of these."""
    if number is None or abs(number[0]) >= FAR * number[1]:
        return None
    return number


def between_two(left, right):
    """The pair of an integer and a key that together stand for the nearer one of left and right."""
    if left is not None and right is not None:
        top = left[0] * right[1] + right[0] * left[1]
        middle_bottom = 2 * left[1] * right[1]
        if top >= middle_bottom:
            right = None
        elif top <= -middle_bottom:
            left = None
    if right is None:
        taken = floor_of(minus((-1, 1), left))
    elif left is None:
        taken = floor_of(minus(right, (1, 1)))
    else:
        taken = floor_of(lower(minus((-1, 1), left), minus(right, (1, 1))))
    # The further away, by an integer, the more by this integer at all numbers.
    near_left = None if left is None else plus(left, (taken, 1))
    near_right = None if right is None else minus(right, (taken, 1))
    return (taken, ((), near_left, near_right))
