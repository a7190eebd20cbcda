"""Broken lines told by their corners: ascending lists of pairs (x, y) of Fractions, x from -1 to 1."""

from fractions import Fraction

from samples import broken

ONE = Fraction(1)


def line_of(slope, height):
    return [(-ONE, height - slope), (ONE, height + slope)]


def neat(points):
    """The same line without needless corners."""
    found = []
    for x, y in points:
        if found and found[-1][0] == x:
            continue
        while len(found) > 1 and slope_of(found[-2], found[-1]) == slope_of(found[-1], (x, y)):
            found.pop()
        found.append((x, y))
    return found


def slope_of(one, other):
    return (other[1] - one[1]) / (other[0] - one[0])


def corners_of(*lines):
    return sorted({x for points in lines for x, _ in points})


def put_together(one, other, f):
    """The line of f of both heights, where f is straight between corners."""
    low, high = broken(one), broken(other)
    return neat([(x, f(low(x), high(x))) for x in corners_of(one, other)])


def added(one, other):
    return put_together(one, other, lambda y, z: y + z)


def best(one, other, f):
    """The greater (f is max) or the lesser one (f is min)."""
    low, high = broken(one), broken(other)
    places = corners_of(one, other)
    for a, b in list(zip(places, places[1:])):
        before, after = low(a) - high(a), low(b) - high(b)
        if before * after < 0:
            places.append(a + (b - a) * before / (before - after))
    return neat([(x, f(low(x), high(x))) for x in sorted(places)])


def changed(points, f):
    return neat([(x, f(y)) for x, y in points])


def amount(points):
    return best(points, changed(points, lambda y: -y), max)


def mirrored(points):
    return neat([(-x, y) for x, y in points[::-1]])


def heights(points):
    found = [y for _, y in points]
    return min(found), max(found)


def put_in(outer, inner):
    """The outer line at the heights of the inner one, all of which are from -1 to 1."""
    at, height = broken(inner), broken(outer)
    places = [x for x, _ in inner]
    for (a, y), (b, z) in zip(inner, inner[1:]):
        for x, _ in outer:
            if min(y, z) < x < max(y, z):
                places.append(a + (b - a) * (x - y) / (z - y))
    return neat([(x, height(at(x))) for x in sorted(places)])


def zoomed(points, base, digits):
    """What is behind the digits, so many times the base as they are."""
    scale = base ** len(digits)
    centre = sum([Fraction(digit, base ** (k + 1)) for k, digit in enumerate(digits)])
    at = broken(points)
    low, high = centre - Fraction(1, scale), centre + Fraction(1, scale)
    places = [low] + [x for x, _ in points if low < x < high] + [high]
    return neat([((x - centre) * scale, scale * at(x)) for x in places])


def far_of(low, high):
    """How far numbers are from those from low to high."""
    return neat([(x, max(low - x, x - high, 0 * ONE)) for x in sorted({-ONE, low, high, ONE})])


def slopes(points):
    return [slope_of(one, other) for one, other in zip(points, points[1:])]


def steepest(points):
    return max([abs(slope) for slope in slopes(points)])


def climb(points):
    return sum([abs(other[1] - one[1]) for one, other in zip(points, points[1:])])


def area(points):
    return sum([(b - a) * (y + z) / 2 for (a, y), (b, z) in zip(points, points[1:])])
