"""The most and the least that a machine makes, and prices (6.1); machines may be sound or not."""

from anywriting.choices import played, way_by
from anywriting.kinds import is_tuple_of
from anywriting.ratios import plus
from anywriting.writings import is_fraction, shortest


def greatest(machine):
    return made_at_best(machine, 1)


def lowest(machine):
    return made_at_best(machine, -1)


def made_at_best(machine, side):
    """The pair of the most (side 1) or the least (side -1) that the machine makes, and a writing of which it does."""
    best, worths = played(machine.base, machine.rows, [side] * len(machine.rows))
    ahead, again = way_by(machine.rows, best, 0)
    writing = shortest(digits_at(machine.base, ahead), digits_at(machine.base, again))
    return (plus((machine.first, 1), worths[0]), writing)


def digits_at(base, places):
    return tuple([place + 1 - base for place in places])


def prices(machine):
    return tuple(extremes(machine, 1))


def extremes(machine, side):
    """For each state the most (side 1) or the least (side -1) that it makes."""
    return played(machine.base, machine.rows, [side] * len(machine.rows))[1]


def is_prices(machine, thing):
    if not is_tuple_of(thing, len(machine.rows)) or not all([is_fraction(price) for price in thing]):
        return False
    for state, row in enumerate(machine.rows):
        top, bottom = thing[state]
        for item, after in row:
            beside_top, beside_bottom = thing[after]
            if machine.base * top * beside_bottom < (item * beside_bottom + beside_top) * bottom:
                return False
    return True
