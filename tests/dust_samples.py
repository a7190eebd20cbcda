"""Dusts for the tests, and what is known of them without the functions that are tested."""

from fractions import Fraction

from anywriting.dusts import Dust, between, either
from samples import drawn_number, pair


def drawn_dust(base, nodes, rng, ways=3):
    """A dust of drawn ways, one to so many from each node."""
    rows = []
    for _ in range(nodes):
        pairs = {(rng.randrange(1 - base, base), rng.randrange(nodes)) for _ in range(rng.randrange(1, ways + 1))}
        rows.append(tuple(sorted(pairs)))
    return Dust(base, tuple(rows))


def cantor(base, *digits):
    """The dust of all rows of these digits."""
    return Dust(base, (tuple([(digit, 0) for digit in sorted(digits)]),))


def single(base, writing):
    """The dust of one writing."""
    ahead, again = writing
    digits = ahead + again
    rows = [((digit, k + 1 if k + 1 < len(digits) else len(ahead)),) for k, digit in enumerate(digits)]
    return Dust(base, tuple(rows))


def levels(dust, x):
    """Level by level, the pairs (node, rest) behind all ways that begin a writing of x, the first level alone."""
    level = {(0, x)}
    while True:
        yield level
        after = set()
        for node, rest in level:
            for digit, beyond in dust.rows[node]:
                left = dust.base * rest - digit
                if -1 <= left <= 1:
                    after.add((beyond, left))
        level = after


def barred_by_search(dust, x):
    """The least number of digits such that no way of so many begins a writing of x, or None."""
    met = set()
    for many, level in enumerate(levels(dust, x)):
        if not level:
            return many
        # Each level follows from the one before: one that comes again comes for ever.
        if frozenset(level) in met:
            return None
        met.add(frozenset(level))


def bounds_by_steps(dust, many=80):
    """About the least and the greatest number in the dust: off by less than the base's power."""
    least = most = [Fraction(0)] * len(dust.rows)
    for _ in range(many):
        least = [min([(d + least[k]) / Fraction(dust.base) for d, k in row]) for row in dust.rows]
        most = [max([(d + most[k]) / Fraction(dust.base) for d, k in row]) for row in dust.rows]
    return least[0], most[0]


def way_of(dust, rng, many=24):
    """A writing by a way of the dust: so many digits ahead, then a round of so many, or of fewer."""
    node = 0
    ahead = []
    for _ in range(many):
        digit, node = rng.choice(dust.rows[node])
        ahead.append(digit)
    while True:
        places = {}
        digits = []
        while node not in places:
            places[node] = len(digits)
            digit, node = rng.choice(dust.rows[node])
            digits.append(digit)
        again = digits[places[node]:]
        times = rng.randrange(1, max(1, many // len(again)) + 1)
        return (tuple(ahead + digits[:places[node]]), tuple(again * times))


def is_way(dust, writing):
    """Whether the writing is one of a way from node 0."""
    ahead, again = writing
    nodes = {0}
    for digit in ahead:
        nodes = {after for node in nodes for d, after in dust.rows[node] if d == digit}
    seen = set()
    while nodes and frozenset(nodes) not in seen:
        seen.add(frozenset(nodes))
        for digit in again:
            nodes = {after for node in nodes for d, after in dust.rows[node] if d == digit}
    return bool(nodes)


def pictures(dust, most=10 ** 6):
    """How many unlike pictures there are behind all tuples of digits, not counted beyond the most."""
    base = dust.base
    start = frozenset([(0, 0)])
    seen = {start}
    todo = [start]
    for picture in todo:
        for digit in range(1 - base, base):
            after = set()
            for node, gap in picture:
                for d, beyond in dust.rows[node]:
                    if abs(base * gap + d - digit) <= 2:
                        after.add((beyond, base * gap + d - digit))
            if frozenset(after) not in seen:
                seen.add(frozenset(after))
                todo.append(frozenset(after))
        if len(seen) > most:
            break
    return len(seen)


def joint(parts):
    """The dust of the numbers that are in one of the parts, of one base, or more."""
    found = parts[0]
    for part in parts[1:]:
        found = either(found, part)
    return found


def stretches_dust(base, intervals):
    """The dust of the numbers in some of these intervals, pairs of Fractions."""
    return joint([between(base, pair(low), pair(high)) for low, high in intervals])


def merged(intervals):
    """The intervals ascending, those that meet made one."""
    found = []
    for low, high in sorted(intervals):
        if found and low <= found[-1][1]:
            found[-1] = (found[-1][0], max(high, found[-1][1]))
        else:
            found.append((low, high))
    return found


def drawn_intervals(rng, most=20):
    """One to three intervals that do not meet, ascending, some of them single numbers."""
    found = []
    for _ in range(rng.randrange(1, 4)):
        low, high = sorted([drawn_number(rng, most) for _ in range(2)])
        found.append((low, low) if rng.randrange(5) == 0 else (low, high))
    return merged(found)


def numbers_near(base, intervals, rng):
    """Numbers at the ends of the intervals, near by, within them, and elsewhere."""
    found = [Fraction(-1), Fraction(0), Fraction(1)] + [drawn_number(rng, 30) for _ in range(6)]
    for low, high in intervals:
        found += [low, high, (low + high) / 2, low + (high - low) / 7]
        for end in (low, high):
            found += [end - Fraction(1, base ** many) for many in (2, 6, 20)]
            found += [end + Fraction(1, base ** many) for many in (2, 6, 20)]
    return [x for x in found if -1 <= x <= 1]


def least_far(dust, x, many=40):
    """How far x is from the nearest number in the dust, within the base's power of so many."""
    level = {(0, Fraction(0))}
    for place in range(1, many + 1):
        step = Fraction(1, dust.base ** place)
        after = {(beyond, top + digit * step) for node, top in level for digit, beyond in dust.rows[node]}
        nearest = min([abs(top - x) for _, top in after])
        level = {(node, top) for node, top in after if abs(top - x) <= nearest + 2 * step}
    return min([abs(top - x) for _, top in level])
