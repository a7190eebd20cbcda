"""The lines that straight states make, and lines between two numbers."""

from math import lcm

from anywriting.machines import made_by_state, made_of_digit
from anywriting.ratios import line_through, minus, plus, reduced
from anywriting.ways import edges_of, leading_to
from anywriting.writings import least_writing


def lines_of(machine):
    """For each state of a sound machine its line (slope, height), None where it is not straight."""
    lows = made_of_digit(machine, 1 - machine.base)
    heights = made_of_digit(machine, 0)
    highs = made_of_digit(machine, machine.base - 1)
    rises = [minus(high, low) for low, high in zip(lows, highs)]
    # A state that leads only to states of one rise rises so from each number of few digits to the next one.
    wrong = [state for state in range(len(rises)) if not is_even(machine, rises, state)]
    bent = leading_to(edges_of(machine), wrong)
    found = []
    for state, (top, bottom) in enumerate(rises):
        found.append(None if state in bent else (reduced(top, 2 * bottom), heights[state]))
    return found


def is_even(machine, rises, state):
    """Whether the states behind all digits rise, from the least number to the greatest, as much as the state."""
    return all([rises[after] == rises[state] for _, after in machine.rows[state]])


def straight_states(lines, slope):
    """A dict of the straight states of this slope."""
    return {state: True for state, found in enumerate(lines) if found is not None and found[0] == slope}


def first_slopes(edges, lines, found):
    """For each state the first one of the slopes found to which it leads."""
    firsts = {}
    for slope in found:
        for state in leading_to(edges, list(straight_states(lines, slope))):
            firsts.setdefault(state, slope)
    return firsts


def tiles_of(machine, state):
    """The triples (tile, told, next) of the state, tiles ascending."""
    row = machine.rows[state]
    return [(place + 1 - machine.base, row[place][0], row[place][1]) for place in range(0, len(row), 2)]


def line_on(machine, lines, state, low, high):
    """The line on which all lies that the state makes of the numbers from low to high above it, or None."""
    base = machine.base
    made_low = made_by_state(machine, state, least_writing(base, low))
    made_high = made_by_state(machine, state, least_writing(base, high))
    line = line_through(low, made_low, high, made_high)
    bottom = lcm(low[1], high[1])
    part = (state, low[0] * (bottom // low[1]), high[0] * (bottom // high[1]))
    seen = {}
    found = [(part, line[1])]
    while found:
        part, height = found.pop()
        is_whole = part[1] == -bottom and part[2] == bottom
        if is_whole or lines[part[0]] is not None:
            if lines[part[0]] != (line[0], height):
                return None
        elif part not in seen:
            # It holds an end that is on the line, so it is met at this height alone.
            seen[part] = True
            found.extend(parts_of(machine, bottom, part, (line[0], height)))
    return line


def parts_of(machine, bottom, part, line):
    """The parts (state, low, high), tops over the bottom, behind each tile, and how high the line is there."""
    state, low, high = part
    slope, height = line
    base = machine.base
    found = []
    for tile, item, after in tiles_of(machine, state):
        left = max(base * low - tile * bottom, -bottom)
        right = min(base * high - tile * bottom, bottom)
        if left < right:
            rise = plus((slope[0] * tile, slope[1]), (base * height[0] - item * height[1], height[1]))
            found.append(((after, left, right), rise))
    return found
