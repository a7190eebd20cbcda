"""Straight states: their lines, the ways to them, their slopes (4.1 and 4.2)."""

from anywriting.lines import lines_of, tiles_of
from anywriting.machines import check_state
from anywriting.ratios import ascending, is_below, size_of
from anywriting.soundness import check_sound
from anywriting.ways import edges_of, states_from, way_to
from anywriting.writings import check_many


def line(machine, state):
    check_sound(machine)
    check_state(machine, state)
    return lines_of(machine)[state]


def road(machine, state):
    check_sound(machine)
    check_state(machine, state)
    lines = lines_of(machine)
    goals = {goal: True for goal, found in enumerate(lines) if found is not None}
    return way_to(edges_of(machine), state, goals)


def slopes(machine):
    check_sound(machine)
    return tuple(slopes_met(machine, lines_of(machine)))


def slopes_met(machine, lines):
    """The ascending list of the slopes of the straight states that can be come to from 0."""
    return slopes_of([lines[state] for state in states_from(edges_of(machine), [0])])


def slopes_of(lines):
    """The ascending list of the slopes of a list of lines, None in it for what is not straight."""
    return ascending([found[0] for found in lines if found is not None])


def steepest(machine):
    check_sound(machine)
    found = slopes_met(machine, lines_of(machine))
    low = size_of(found[0])
    high = size_of(found[-1])
    return low if is_below(high, low) else high


def rough(machine, many):
    check_sound(machine)
    check_many(many)
    lines = lines_of(machine)
    counts = {0: 1} if lines[0] is None else {}
    for _ in range(many):
        counts = tiled_on(machine, lines, counts)
    return sum(counts.values())


def tiled_on(machine, lines, counts):
    """How many tuples of one tile more lead to each state that is not straight."""
    found = {}
    for state, count in counts.items():
        for _, _, after in tiles_of(machine, state):
            if lines[after] is None:
                found[after] = found.get(after, 0) + count
    return found
