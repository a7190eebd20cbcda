"""Least machines built out of keys that stand for functions (5)."""

from anywriting.errors import TooMany
from anywriting.least import MOST_STATES, grouped, lifted_rows, numbered
from anywriting.machines import made_of_digit
from anywriting.ratios import floor_of, minus


def built(base, first, start, maker):
    """The least machine of first and of what the key start makes, added.

    maker.row(key) tells the pairs (told, key) of all digits, and maker.ends(key) what the key makes of -1, 0 and 1.
    """
    numbers = {start: 0}
    keys = [start]
    rows = {}
    lifts = []
    marks = {}
    signs = {}
    while len(rows) < len(keys):
        at = len(rows)
        low, middle, high = maker.ends(keys[at])
        lifts.append(floor_of(middle))
        # Keys that make unlike ones there are unlike for sure: too many are found out early so.
        sign = (minus(low, middle), minus(middle, (lifts[at], 1)), minus(high, middle))
        marks[at] = signs.setdefault(sign, len(signs))
        if len(signs) > MOST_STATES:
            raise TooMany(MOST_STATES)
        row = []
        pairs = maker.row(keys[at])
        for item, key in pairs:
            if key not in numbers:
                numbers[key] = len(keys)
                keys.append(key)
            row.append((item, numbers[key]))
        rows[at] = row
    lifted = lifted_rows(base, rows, lifts)
    return numbered(base, first + lifts[0], 0, lifted, grouped(lifted, marks, MOST_STATES))


def ends_of(machine):
    """For each state the triple of what it makes of -1, 0 and 1."""
    lows = made_of_digit(machine, 1 - machine.base)
    middles = made_of_digit(machine, 0)
    highs = made_of_digit(machine, machine.base - 1)
    return list(zip(lows, middles, highs))
