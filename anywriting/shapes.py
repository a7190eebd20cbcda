"""Falls, dents, lines between numbers, climbs, crowds and pieces (4.3 to 4.5)."""

from math import lcm

from anywriting.crowds import bent_edges, crowd_of, is_crowd_of, pieces_of
from anywriting.errors import NoNumber
from anywriting.kinds import is_tuple_of
from anywriting.lines import first_slopes, line_on, lines_of, straight_states, tiles_of
from anywriting.ratios import height_at, is_below, line_through, plus, reduced, worth_of
from anywriting.solving import solved
from anywriting.soundness import check_sound, value_at
from anywriting.straight import slopes_met
from anywriting.ways import edges_of, states_from, way_to
from anywriting.writings import check_number, is_number


def stretch_of(base, digits):
    """The least and the greatest number that can be written with these digits at the beginning."""
    return worth_of(base, digits, (1 - base,)), worth_of(base, digits, (base - 1,))


def fall(machine):
    check_sound(machine)
    lines = lines_of(machine)
    lowest = slopes_met(machine, lines)[0]
    if lowest[0] >= 0:
        return None
    way = way_to(edges_of(machine), 0, straight_states(lines, lowest))
    return stretch_of(machine.base, way)


def are_rising_numbers(thing, many):
    """Whether the thing is a tuple of so many numbers, each one below the next one."""
    if not is_tuple_of(thing, many) or not all([is_number(item) for item in thing]):
        return False
    return all([is_below(thing[k], thing[k + 1]) for k in range(many - 1)])


def is_fall(machine, thing):
    check_sound(machine)
    return are_rising_numbers(thing, 2) and is_below(value_at(machine, thing[1]), value_at(machine, thing[0]))


def is_dent(machine, thing):
    check_sound(machine)
    return are_rising_numbers(thing, 3) and is_above_chord(machine, thing)


def is_above_chord(machine, numbers):
    """Whether the value at the second number is above the line from that at the first to that at the third."""
    low, middle, high = numbers
    chord = line_through(low, value_at(machine, low), high, value_at(machine, high))
    return is_below(height_at(chord, middle), value_at(machine, middle))


def dent(machine):
    check_sound(machine)
    lines = lines_of(machine)
    edges = edges_of(machine)
    found = slopes_met(machine, lines)
    lowest = first_slopes(edges, lines, found)
    highest = first_slopes(edges, lines, found[::-1])
    for state in states_from(edges, [0]):
        tiles = tiles_of(machine, state)
        for k in range(len(tiles) - 1):
            steep = highest[tiles[k][2]]
            flat = lowest[tiles[k + 1][2]]
            if is_below(flat, steep):
                way = way_to(edges, 0, {state: True})
                below = way + way_through(edges, lines, tiles[k], steep)
                above = way + way_through(edges, lines, tiles[k + 1], flat)
                return dent_between(machine, below, above)
    return None


def way_through(edges, lines, tile, slope):
    """The digits, the tile's own the first, to a straight state of this slope."""
    return (tile[0],) + way_to(edges, tile[2], straight_states(lines, slope))


def dent_between(machine, below, above):
    """A dent from the stretch of some digits to that of others above it, on which the slope is less."""
    low, end = stretch_of(machine.base, below)
    start, high = stretch_of(machine.base, above)
    # Were the values at both inner ends under the line, the slope could not be less above.
    if is_above_chord(machine, (low, end, high)):
        return (low, end, high)
    return (low, start, high)


def line_between(machine, x, y):
    check_sound(machine)
    check_number(x)
    check_number(y)
    if not is_below(x, y):
        raise NoNumber()
    found = line_on(machine, lines_of(machine), 0, x, y)
    return None if found is None else (found[0], plus((machine.first, 1), found[1]))


def climb(machine):
    check_sound(machine)
    lines = lines_of(machine)
    common = 1
    for slope in slopes_met(machine, lines):
        common = lcm(common, slope[1])
    rows = {}
    sums = {}
    for state in states_from(bent_edges(machine, lines), [0]):
        rows[state], sums[state] = climb_row(machine, lines, state, common)
    rise = solved(rows, sums, 0)
    return reduced(rise[0], rise[1] * common)


def climb_row(machine, lines, state, common):
    """The equation of what the state climbs, common times as much: the base times it is what is behind its tiles."""
    row = {state: machine.base}
    total = 0
    for _, _, after in tiles_of(machine, state):
        if lines[after] is None:
            row[after] = row.get(after, 0) - 1
        else:
            top, bottom = lines[after][0]
            total += 2 * abs(top) * (common // bottom)
    return row, total


def is_crowd(machine, thing):
    check_sound(machine)
    return is_number(thing) and is_crowd_of(machine, lines_of(machine), thing)


def crowd(machine):
    check_sound(machine)
    return crowd_of(machine, lines_of(machine))


def pieces(machine):
    check_sound(machine)
    lines = lines_of(machine)
    if crowd_of(machine, lines) is not None:
        return None
    return tuple([(end, slope, plus((machine.first, 1), height)) for end, slope, height in pieces_of(machine, lines)])
