"""How far numbers are from dusts, and dusts from one another (7.4)."""

from anywriting.building import built
from anywriting.choices import played
from anywriting.dusts import check_bases
from anywriting.nearest import Nearest
from anywriting.pictures import pictures_of
from anywriting.ratios import is_below, worth_of
from anywriting.webs import first_way, web_from


class Following:
    """Keys (node, number): the ways of one dust, and the picture of the other one behind them."""

    def __init__(self, one, steps):
        self.base = one.base
        self.rows = one.rows
        self.steps = steps

    def pairs(self, key):
        node, number = key
        return [(digit, (after, self.steps[number][digit + self.base - 1])) for digit, after in self.rows[node]]


class Leaving:
    """Keys (node, key): the ways of one dust, and what may be nearest of the other one behind them."""

    def __init__(self, one, nearest):
        self.rows = one.rows
        self.nearest = nearest

    def pairs(self, key):
        node, near = key
        found = []
        for digit, after in self.rows[node]:
            item, behind = self.nearest.step(near, digit)
            found.append(((digit, item), (after, behind)))
        return found


def distance(dust):
    pictures_of(dust)
    nearest = Nearest(dust)
    return built(dust.base, 0, nearest.start(), nearest)


def outside(one, other):
    check_bases(one, other)
    pictures, steps = pictures_of(other)
    web = web_from((0, 0), Following(one, steps))
    digits, node = way_out(web, pictures)
    if digits is None:
        return None
    ahead, again = first_way(one.rows, node)
    return worth_of(one.base, digits + ahead, again)


def way_out(web, pictures):
    """The digits of a shortest way to a key of the empty picture, and its node; or None and None."""
    came = {(0, 0): None}
    keys = [(0, 0)]
    at = 0
    while at < len(keys):
        key = keys[at]
        at += 1
        if len(pictures[key[1]]) == 0:
            return digits_to(came, key), key[0]
        for digit, after in web[key]:
            if after not in came:
                came[after] = (digit, key)
                keys.append(after)
    return None, None


def digits_to(came, key):
    """The digits by which the key was come to."""
    digits = []
    step = came[key]
    while step is not None:
        digits.append(step[0])
        step = came[step[1]]
    return tuple(digits[::-1])


def apart(one, other):
    check_bases(one, other)
    pictures_of(one)
    pictures_of(other)
    far, x = farthest(one, other)
    back_far, back_x = farthest(other, one)
    if is_below(far, back_far):
        return (back_far, back_x, 1)
    return (far, x, 0)


def farthest(one, other):
    """The greatest distance of a number in one from the nearest in the other, and such a number."""
    nearest = Nearest(other)
    start = (0, nearest.start())
    web = web_from(start, Leaving(one, nearest))
    numbers = {key: number for number, key in enumerate(web)}
    moves = []
    digits = []
    for pairs in web.values():
        moves.append([(item, numbers[after]) for (_, item), after in pairs])
        digits.append([digit for (digit, _), _ in pairs])
    best, worths = played(one.base, moves, [1] * len(moves))
    ahead, again = steps_by(moves, digits, best)
    return worths[0], worth_of(one.base, ahead, again)


def steps_by(moves, digits, best):
    """The digits of the way from the first key on by the best moves."""
    places = {}
    said = []
    at = 0
    while at not in places:
        places[at] = len(said)
        said.append(digits[at][best[at]])
        at = moves[at][best[at]][1]
    return said[:places[at]], said[places[at]:]
