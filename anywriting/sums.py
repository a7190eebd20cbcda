"""Functions added, times a fraction, raised and mirrored (5.1)."""

from anywriting.building import built, ends_of
from anywriting.errors import NoFraction, TooMany
from anywriting.least import MOST_STATES, check_both, least_from
from anywriting.machines import Machine
from anywriting.ratios import floor_of, plus, reduced
from anywriting.soundness import check_sound
from anywriting.writings import is_fraction


class Sums:
    """Keys (p, q): what the state p of one machine and the state q of the other one make, added."""

    def __init__(self, one, other):
        self.one_rows = one.rows
        self.other_rows = other.rows
        self.one_ends = ends_of(one)
        self.other_ends = ends_of(other)

    def row(self, key):
        pairs = zip(self.one_rows[key[0]], self.other_rows[key[1]])
        return [(told_one + told_other, (p, q)) for (told_one, p), (told_other, q) in pairs]

    def ends(self, key):
        return tuple([plus(x, y) for x, y in zip(self.one_ends[key[0]], self.other_ends[key[1]])])


class Parts:
    """Keys (p, r), r an integer: factor times what the state p makes, and r, both divided by bottom.

    The machine is a least one. Of all r that are whole bottoms apart, that key is met which makes from 0 to below 1
    of the number 0.
    """

    def __init__(self, machine, factor, bottom):
        self.base = machine.base
        self.rows = machine.rows
        self.factor = factor
        self.bottom = bottom
        self.zooms = ends_of(machine)
        self.floors = [floor_of((factor * middle[0], middle[1])) for _, middle, _ in self.zooms]

    def met(self, state, rise):
        """The pair of an integer and a key that make as much as the state and the rise."""
        item = (rise + self.floors[state]) // self.bottom
        return (item, (state, rise - item * self.bottom))

    def row(self, key):
        state, rise = key
        return [self.met(after, self.factor * item + self.base * rise) for item, after in self.rows[state]]

    def ends(self, key):
        state, rise = key
        factor = self.factor
        return tuple([
            reduced(factor * top + rise * bottom, bottom * self.bottom) for top, bottom in self.zooms[state]
        ])


def added(one, other):
    check_both(one, other)
    first = one.first + other.first
    return built(one.base, first, (0, 0), Sums(one, other))


def times(machine, factor):
    check_sound(machine)
    if not is_fraction(factor):
        raise NoFraction()
    return parted(machine, factor[0], 0, factor[1])


def raised(machine, height):
    check_sound(machine)
    if not is_fraction(height):
        raise NoFraction()
    return parted(machine, height[1], height[0], height[1])


def parted(machine, factor, rise, bottom):
    """The least machine of factor times what the sound machine makes, and the rise, both divided by bottom."""
    least_one = least_from(machine, 0, machine.first)
    parts = Parts(least_one, factor, bottom)
    first, start = parts.met(0, factor * least_one.first + rise)
    return built(machine.base, first, start, parts)


def mirrored(machine):
    check_sound(machine)
    turned = Machine(machine.base, machine.first, tuple([row[::-1] for row in machine.rows]))
    found = least_from(turned, 0, turned.first)
    if len(found.rows) > MOST_STATES:
        raise TooMany(MOST_STATES)
    return found
