"""Dusts of what machines make of numbers, and of the numbers of which they make something (7.5).

What is written here is written by tiles alone: each number can be, and so the dusts have fewer nodes.
"""

from anywriting.dusts import Dust, check_bases
from anywriting.least import least_from
from anywriting.most import extremes
from anywriting.ratios import ceiling_of, floor_of, minus
from anywriting.soundness import check_sound
from anywriting.webs import endless, folded, web_from


class Values:
    """What a sound machine's states make, and how far this goes.

    In the keys of all webs here the integer lift says how much more than a state makes is to be written by what is
    beside it; only those lifts are kept at which this can be.
    """

    def __init__(self, machine):
        least = least_from(machine, 0, machine.first)
        self.base = least.base
        self.first = least.first
        self.rows = least.rows
        self.lows = extremes(least, -1)
        self.highs = extremes(least, 1)
        self.tiles = list(range(1 - least.base, least.base, 2))

    def move(self, state, lift, digit):
        """The pair of the next state and the next lift, if nothing is written."""
        item, after = self.rows[state][digit + self.base - 1]
        return after, self.base * lift + item

    def meets(self, state, lift, low, high):
        """Whether what the state makes, lifted, may be one of the fractions from low to high."""
        lowest = ceiling_of(minus(low, self.highs[state]))
        return lowest <= lift <= floor_of(minus(high, self.lows[state]))


class Equals:
    """Keys (state, lift): the numbers at which the value is 0 (times 0), or the number itself (times 1)."""

    def __init__(self, values, times):
        self.made = values
        self.times = times

    def pairs(self, key):
        state, lift = key
        found = []
        for tile in self.made.tiles:
            after, lifted = self.made.move(state, lift, tile)
            left = lifted - self.times * tile
            if self.made.meets(after, left, (-self.times, 1), (self.times, 1)):
                found.append((tile, (after, left)))
        return found


class Images:
    """Keys (node, state, lift): what the state makes of the ways from the node, lifted, is written."""

    def __init__(self, values, dust):
        self.made = values
        self.dust_rows = dust.rows

    def pairs(self, key):
        node, state, lift = key
        found = []
        for own, beside in self.dust_rows[node]:
            after, lifted = self.made.move(state, lift, own)
            for tile in self.made.tiles:
                if self.made.meets(after, lifted - tile, (-1, 1), (1, 1)):
                    found.append((tile, (beside, after, lifted - tile)))
        return found


class Sources:
    """Keys (state, node, lift): the numbers of which the state makes, lifted, what ways from the node write."""

    def __init__(self, values, dust):
        self.made = values
        self.dust_rows = dust.rows

    def pairs(self, key):
        state, node, lift = key
        found = []
        for tile in self.made.tiles:
            after, lifted = self.made.move(state, lift, tile)
            for own, beside in self.dust_rows[node]:
                if self.made.meets(after, lifted - own, (-1, 1), (1, 1)):
                    found.append((tile, (after, beside, lifted - own)))
        return found


def dust_of(base, start, guide):
    """The dust of all ways without end from the start, or None."""
    web = endless(web_from(start, guide))
    if start not in web:
        return None
    return Dust(base, folded(web, start))


def noughts(machine):
    check_sound(machine)
    values = Values(machine)
    return dust_of(machine.base, (0, values.first), Equals(values, 0))


def standing(machine):
    check_sound(machine)
    values = Values(machine)
    return dust_of(machine.base, (0, values.first), Equals(values, 1))


def image(machine, dust):
    check_bases(machine, dust)
    check_sound(machine)
    values = Values(machine)
    return dust_of(machine.base, (0, 0, values.first), Images(values, dust))


def behind(machine, dust):
    check_bases(machine, dust)
    check_sound(machine)
    values = Values(machine)
    return dust_of(machine.base, (0, 0, values.first), Sources(values, dust))
