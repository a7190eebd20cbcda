"""Functions, machines and odd things for the tests, made without the functions that are tested."""

from fractions import Fraction
from functools import lru_cache
from itertools import product
from random import Random

from anywriting.errors import NoBase, TooMany
from anywriting.machines import Machine

BASES = (2, 3, 4, 5)


def pair(x):
    """A fraction of the package, of a Fraction or an integer."""
    x = Fraction(x)
    return (x.numerator, x.denominator)


def frac(one):
    return Fraction(one[0], one[1])


def deep(inner, depth):
    for _ in range(depth):
        inner = (inner,)
    return inner


def deep_list(depth):
    inner = []
    for _ in range(depth):
        inner = [inner]
    return inner


def odd_things():
    """Objects of many kinds, none of them right as anything but, some, as an integer or a tuple of integers."""
    return [
        None, True, False, 0, 1, -1, 7, 10 ** 30, "", "2", "(0, 1)", b"", b"12", bytearray(b"1"), (), [], {}, (0,),
        (1, 0), (2, 4), (0, 2), (1, -2), (True, 1), (0, True), [0, 1], (0, 1, 1), ((0,), [0]), ([0], (0,)),
        ((0,), ()), ((), (0,), ()), ((0,),), ((True,), (0,)), ((), (None,)), ((), "0"), (0, ((), (0,))), {"a": 1},
        {(0, 0): 0, None: 1}, {(0, 0, 0): None}, {0: {1: [2]}}, deep((), 38), deep_list(38), deep(deep_list(15), 15),
        (None,) * 3, tuple(range(5000)), [0] * 5000, range(3), slice(1), len, int, object(), Ellipsis,
        NotImplemented, iter([1]), (k for k in (1, 2)), memoryview(b"a"), NoBase(), TooMany(3), NoBase, Machine,
        lambda: 0, absolute_machine(), (absolute_machine(), absolute_machine()), {1: absolute_machine()},
    ]


def absolute_machine():
    """The machine `v` of the document: the amount of x, base 2."""
    return Machine(2, 0, (((1, 2), (0, 0), (1, 1)), ((-1, 1), (0, 1), (1, 1)), ((1, 2), (0, 2), (-1, 2))))


def worth_by_sum(base, row):
    """The worth of a row, digit by digit."""
    total = Fraction(0)
    weight = Fraction(1)
    for item in row[0]:
        weight /= base
        total += weight * item
    turn = Fraction(0)
    part = Fraction(1)
    for item in row[1]:
        part /= base
        turn += part * item
    return total + weight * turn / (1 - part)


def makes_by_sum(machine, state, writing):
    """What a state makes of a writing, step by step until a place of the round comes again."""
    told = []
    ahead, again = writing
    at = state
    for digit in ahead:
        item, at = machine.rows[at][digit + machine.base - 1]
        told.append(item)
    seen = {}
    place = 0
    while (at, place) not in seen:
        seen[at, place] = len(told)
        item, at = machine.rows[at][again[place] + machine.base - 1]
        told.append(item)
        place = (place + 1) % len(again)
    cut = seen[at, place]
    return worth_by_sum(machine.base, (told[:cut], told[cut:]))


def made_by_sum(machine, writing):
    return machine.first + makes_by_sum(machine, 0, writing)


def some_writing(base, x, rng):
    """A writing of the Fraction x that is drawn digit by digit for a while, then ends in the greatest digits."""
    ahead = []
    for _ in range(rng.randrange(6)):
        fits = [d for d in range(1 - base, base) if abs(base * x - d) <= 1]
        digit = rng.choice(fits)
        ahead.append(digit)
        x = base * x - digit
    again = []
    seen = {}
    while x not in seen:
        seen[x] = len(again)
        digit = max(d for d in range(1 - base, base) if abs(base * x - d) <= 1)
        again.append(digit)
        x = base * x - digit
    cut = seen[x]
    return (tuple(ahead) + tuple(again[:cut]), tuple(again[cut:]))


def drawn_writing(base, rng, most=8):
    ahead = [rng.randrange(1 - base, base) for _ in range(rng.randrange(most))]
    again = [rng.randrange(1 - base, base) for _ in range(rng.randrange(1, most))]
    return (tuple(ahead), tuple(again))


def drawn_number(rng, most=1000):
    bottom = rng.randrange(1, most + 1)
    return Fraction(rng.randrange(-bottom, bottom + 1), bottom)


def stretch_writings(base, rng):
    """Writings in all parts of the line, ends of parts among them."""
    found = []
    for tiles in product(range(1 - base, base, 2), repeat={2: 5, 3: 3, 4: 3, 5: 2}[base]):
        found += [(tiles, (1 - base,)), (tiles, (base - 1,)), (tiles, drawn_writing(base, rng, 5)[1])]
    return found


def line_by_values(machine, state):
    """The line (slope, height) of a state, or None, by what it makes of writings in all parts of the line."""
    writings = stretch_writings(machine.base, Random(7))
    points = [(worth_by_sum(machine.base, row), makes_by_sum(machine, state, row)) for row in writings]
    low, high = points[0][1], max(points)[1]
    slope = (high - low) / 2
    height = low + slope
    return (slope, height) if all(y == slope * x + height for x, y in points) else None


def ways_to_states(machine):
    """For each state that can be come to, fewest digits that lead to it, and of these the least."""
    ways = {0: ()}
    todo = [0]
    for state in todo:
        for place, (_, after) in enumerate(machine.rows[state]):
            if after not in ways:
                ways[after] = ways[state] + (place + 1 - machine.base,)
                todo.append(after)
    return ways


def drawn_machine(base, states, rng, size=3):
    """A machine of drawn parts, hardly ever a sound one."""
    rows = []
    for _ in range(states):
        rows.append(tuple([(rng.randrange(-size, size + 1), rng.randrange(states)) for _ in range(2 * base - 1)]))
    return Machine(base, rng.randrange(-9, 10), tuple(rows))


# Functions of Fractions from -1 to 1.

def straight(slope, height):
    return lambda x: slope * x + height


def broken(points):
    """The function that is straight between these points (x, y), the x ascending from -1 to 1."""
    def at(x):
        for (a, low), (b, high) in zip(points, points[1:]):
            if x <= b:
                return low + (high - low) * (x - a) / (b - a)
        raise AssertionError(x)
    return at


def broken_pieces(points):
    """The triples (end, slope, height) of those points, neighbours of one line joined."""
    out = []
    for (a, low), (b, high) in zip(points, points[1:]):
        slope = (high - low) / (b - a)
        piece = (b, slope, low - slope * a)
        if out and out[-1][1:] == piece[1:]:
            out.pop()
        out.append(piece)
    return out


def bumps(base, left=False):
    """Bent at ever nearer places beside 0: above it, and below it too if left is True."""
    def at(x):
        if x == 0 or (x < 0 and not left):
            return Fraction(0)
        scale = Fraction(1)
        size = abs(x)
        while size * base < 1:
            size *= base
            scale /= base
        # From 1 / base to 1: up to the middle of these, then down to nothing.
        middle = Fraction(base + 1, 2 * base)
        half = middle - Fraction(1, base)
        return scale * max(Fraction(0), (half - abs(size - middle)) * 2 * base)
    return at


def moved_bumps(base, end):
    """Bent at ever nearer places beside the end, 1 or -1, alone."""
    near = bumps(base)
    return lambda x: near(abs(end - x) / 2) * 2


def bump_bends(base, least):
    """The numbers above `least` at which bumps(base) is bent."""
    found = []
    scale = Fraction(1)
    while scale > least:
        found += [scale, scale * Fraction(base + 1, 2 * base)]
        scale /= base
    return [x for x in found if x > least]


def nested_bumps():
    """Base 2: bent at ever nearer places above 0, and above 1/2, 1/4 and so on."""
    near = bumps(2)

    def at(x):
        if x <= 0:
            return Fraction(0)
        scale = Fraction(1)
        while x * 2 < 1:
            x *= 2
            scale /= 2
        return scale * near(2 * x - 1) / 2
    return at


def dust_distance(base, digits):
    """How far x is from the nearest number that is written with these digits alone."""
    lowest = Fraction(min(digits), base - 1)
    highest = Fraction(max(digits), base - 1)
    known = {}

    def at(x):
        if x <= lowest:
            return lowest - x
        if x >= highest:
            return x - highest
        if x not in known:
            # What comes back to itself is written so for ever: it is in the dust.
            known[x] = Fraction(0)
            known[x] = min(at(base * x - digit) / base for digit in digits)
        return known[x]
    return at


def saw(base, depth, height):
    """Teeth at all numbers of so many digits, each one as high as told, times their breadth."""
    def at(x):
        x *= base ** depth
        x -= x.numerator // x.denominator
        return height * min(x, 1 - x) / base ** depth
    return at


class TooManyStates(Exception):
    pass


def learned(base, f, most=24, depth=None):
    """The least machine of a function, its states told apart by their values at the numbers of few digits."""
    depth = depth if depth is not None else {2: 4, 3: 3, 4: 2, 5: 2}[base]
    grid = [Fraction(k, base ** depth) for k in range(-base ** depth, base ** depth + 1)]
    grid += [Fraction(k, 1009) for k in range(-1000, 1009, 91)]
    kept = {}

    def known(x):
        if x not in kept:
            kept[x] = f(x)
        return kept[x]

    def part(level, centre, lift):
        scale = base ** level
        return tuple([scale * known(centre + y / scale) - lift for y in grid])

    first = floor(known(Fraction(0)))
    start = (0, Fraction(0), first)
    places = [start]
    numbers = {part(*start): 0}
    rows = []
    while len(rows) < len(places):
        level, centre, lift = places[len(rows)]
        row = []
        for digit in range(1 - base, base):
            scale = base ** (level + 1)
            there = centre + Fraction(digit, scale)
            high = floor(scale * known(there))
            mark = part(level + 1, there, high)
            if mark not in numbers:
                numbers[mark] = len(places)
                places.append((level + 1, there, high))
                if len(places) > most:
                    raise TooManyStates()
            row.append((high - base * lift, numbers[mark]))
        rows.append(tuple(row))
    return Machine(base, first, tuple(rows))


def many_pieces(one, other):
    """Base 2: teeth of 1984 pieces up to 15/16, then so many teeth, a power of 2, and in the last part so many."""
    def at(x):
        if x <= Fraction(15, 16):
            return saw(2, 9, 1)(x)
        if x <= Fraction(31, 32):
            return teeth(32 * x - 30, one)
        return teeth(32 * x - 31, other)
    return at


def teeth(x, many):
    """So many teeth from 0 to 1, of slopes 1 and -1, as the last 32nd parts of a line."""
    x *= many
    x -= floor(x)
    return min(x, 1 - x) / (32 * many)


def floor(x):
    return x.numerator // x.denominator


def drawn_points(base, rng):
    """Points of a broken line with ends of few digits or short rounds, and mostly small slopes."""
    bottoms = [base, base * base, base - 1, base + 1, 1]
    ends = {Fraction(-1), Fraction(1)}
    for _ in range(rng.randrange(1, 4)):
        bottom = rng.choice(bottoms)
        ends.add(Fraction(rng.randrange(-bottom, bottom + 1), bottom))
    ends = sorted(ends)
    points = [(ends[0], Fraction(rng.randrange(-6, 7), rng.choice((1, 1, 2))))]
    for a, b in zip(ends, ends[1:]):
        slope = Fraction(rng.randrange(-4, 5), rng.choice((1, 1, 1, 2)))
        points.append((b, points[-1][1] + slope * (b - a)))
    return points


def drawn_broken(base, rng, most=24):
    """A pair of the points of a broken line and its least machine."""
    while True:
        points = drawn_points(base, rng)
        try:
            return points, learned(base, broken(points), most)
        except TooManyStates:
            continue


@lru_cache(maxsize=None)
def crowded(base):
    """Triples of a name, a function with a crowd and its machine."""
    functions = [("bumps", bumps(base)), ("both bumps", bumps(base, True))]
    functions += [("high bumps", moved_bumps(base, 1)), ("low bumps", moved_bumps(base, -1))]
    if base == 2:
        functions += [("nested", nested_bumps())]
    if base == 3:
        functions += [("dust", dust_distance(3, (-2, 2))), ("low dust", dust_distance(3, (-2, 0)))]
    if base == 4:
        functions += [("dust", dust_distance(4, (-3, 3))), ("wide dust", dust_distance(4, (-3, -1, 3)))]
    if base == 5:
        functions += [("dust", dust_distance(5, (-4, 0, 4)))]
    return tuple([(name, f, learned(base, f, 24)) for name, f in functions])


@lru_cache(maxsize=None)
def sound_machines(base, seed=0):
    """Pairs of a function and its least machine, of many shapes."""
    rng = Random(1000 * base + seed)
    found = []
    for _ in range(4):
        slope = Fraction(rng.randrange(-9, 10), rng.choice((1, 2, 3, 4)))
        height = Fraction(rng.randrange(-9, 10), rng.choice((1, 2, 3, 5)))
        found.append((straight(slope, height), learned(base, straight(slope, height))))
    for _ in range(4):
        points, machine = drawn_broken(base, rng)
        found.append((broken(points), machine))
    found.append((saw(base, 2, 3), learned(base, saw(base, 2, 3))))
    found += [(f, machine) for _, f, machine in crowded(base)]
    return tuple(found)


# Machines told otherwise.

def lifted(machine, lifts):
    """The same function, each state making more by its lift."""
    rows = []
    for state, row in enumerate(machine.rows):
        rows.append(tuple([(told + machine.base * lifts[state] - lifts[after], after) for told, after in row]))
    return Machine(machine.base, machine.first - lifts[0], tuple(rows))


def doubled(machine, rng):
    """The same function, some states told twice, each one led to by turns."""
    many = len(machine.rows)
    copies = {state: [state] for state in range(many)}
    places = list(range(many))
    for _ in range(rng.randrange(1, 4)):
        state = rng.randrange(many)
        copies[state].append(len(places))
        places.append(state)
    rows = []
    for state in places:
        rows.append(tuple([(told, rng.choice(copies[after])) for told, after in machine.rows[state]]))
    return Machine(machine.base, machine.first, tuple(rows))


def joined(machine, other):
    """The first machine, with the states of the other one behind its own, where nothing leads to."""
    many = len(machine.rows)
    rows = [tuple([(told, after + many) for told, after in row]) for row in other.rows]
    return Machine(machine.base, machine.first, machine.rows + tuple(rows))


def shuffled(machine, rng):
    """The same function, the states but 0 in a drawn order."""
    many = len(machine.rows)
    order = list(range(1, many))
    rng.shuffle(order)
    order = [0] + order
    place = {state: k for k, state in enumerate(order)}
    rows = [tuple([(told, place[after]) for told, after in machine.rows[state]]) for state in order]
    return Machine(machine.base, machine.first, tuple(rows))


def retold(machine, rng):
    """The same function by a drawn machine of more states."""
    told = doubled(machine, rng)
    if rng.randrange(2):
        other = learned(machine.base, straight(Fraction(rng.randrange(-50, 50)), Fraction(1, 2)))
        told = joined(told, other)
    size = rng.choice((9, 9, 10 ** 11))
    told = lifted(told, [rng.randrange(-size, size + 1) for _ in told.rows])
    return shuffled(told, rng)


def changed(machine, rng):
    """One integer or one next state otherwise."""
    state = rng.randrange(len(machine.rows))
    place = rng.randrange(2 * machine.base - 1)
    told, after = machine.rows[state][place]
    if len(machine.rows) > 1 and rng.randrange(2):
        after = (after + rng.randrange(1, len(machine.rows))) % len(machine.rows)
    else:
        told += rng.choice((-2, -1, 1, 2))
    row = machine.rows[state][:place] + ((told, after),) + machine.rows[state][place + 1:]
    return Machine(machine.base, machine.first, machine.rows[:state] + (row,) + machine.rows[state + 1:])


def added(one, other):
    """The sum of two machines of one base, of all pairs of states."""
    many = len(other.rows)
    rows = []
    for row in one.rows:
        for beside in other.rows:
            pairs = zip(row, beside)
            rows.append(tuple([(a + b, p * many + q) for (a, p), (b, q) in pairs]))
    return Machine(one.base, one.first + other.first, tuple(rows))


def unsound_machine():
    """Base 2, sound but for a state alone that nothing leads to."""
    rows = absolute_machine().rows + (((0, 3), (0, 3), (1, 3)),)
    return Machine(2, 0, rows)
