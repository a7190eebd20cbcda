"""Least machines, and whether two machines are alike (2.5 and 3)."""

from anywriting.errors import NoFraction, OtherBase, TooMany
from anywriting.kinds import is_integer, is_tuple_of
from anywriting.machines import Machine, check_digits, follow, is_state, made_by_machine, made_of_digit
from anywriting.ratios import floor_of, power, whole
from anywriting.soundness import check_sound, is_sound
from anywriting.ways import edges_of, states_from
from anywriting.writings import check_base, is_fraction, is_row_of_digits

MOST_STATES = 400


def lined(base, slope, height):
    check_base(base)
    if not is_fraction(slope) or not is_fraction(height):
        raise NoFraction()
    # All heights are kept as tops over one bottom.
    bottom = slope[1] * height[1]
    rise = slope[0] * height[1]
    first, start = divmod(height[0] * slope[1], bottom)
    tops = [start]
    states = {start: 0}
    rows = []
    while len(rows) < len(tops):
        row = []
        for digit in range(1 - base, base):
            item, after = divmod(rise * digit + base * tops[len(rows)], bottom)
            if after not in states:
                states[after] = len(tops)
                tops.append(after)
            row.append((item, states[after]))
        rows.append(tuple(row))
        if len(tops) > MOST_STATES:
            raise TooMany(MOST_STATES)
    return Machine(base, first, tuple(rows))


def zoom(machine, digits):
    check_sound(machine)
    check_digits(machine, digits)
    said, state = follow(machine, 0, digits)
    first = machine.first * power(machine.base, len(digits)) + whole(machine.base, said)
    return least_from(machine, state, first)


def least(machine):
    check_sound(machine)
    return least_from(machine, 0, machine.first)


def least_from(machine, start, first):
    """The least machine of first and what the state start of a sound machine makes, added."""
    lifts = [floor_of(height) for height in made_of_digit(machine, 0)]
    rows = {state: machine.rows[state] for state in states_from(edges_of(machine), [start])}
    lifted = lifted_rows(machine.base, rows, lifts)
    groups = grouped(lifted, {state: 0 for state in rows}, len(rows))
    return numbered(machine.base, first + lifts[start], start, lifted, groups)


def lifted_rows(base, rows, lifts):
    """The rows of a dict when each state makes less by its lift."""
    found = {}
    for state, row in rows.items():
        taken = base * lifts[state]
        found[state] = [(item - taken + lifts[after], after) for item, after in row]
    return found


def grouped(rows, marks, most):
    """For each state the number of its group: states of one group tell the same of all digits for ever.

    States of unlike marks are known to be unlike. TooMany if there are more groups than the most.
    """
    groups = marks
    many = len(set(list(marks.values())))
    while True:
        signs = {}
        finer = {}
        for state, row in rows.items():
            sign = (groups[state], tuple([(item, groups[after]) for item, after in row]))
            finer[state] = signs.setdefault(sign, len(signs))
        if len(signs) > most:
            raise TooMany(most)
        if len(signs) == many:
            return finer
        groups = finer
        many = len(signs)


def numbered(base, first, start, rows, groups):
    """The machine whose states are the groups, numbered as they are come to from that of the start."""
    speakers = {group: state for state, group in groups.items()}
    numbers = {groups[start]: 0}
    order = [groups[start]]
    told_rows = []
    while len(told_rows) < len(order):
        row = []
        pairs = rows[speakers[order[len(told_rows)]]]
        for item, after in pairs:
            group = groups[after]
            if group not in numbers:
                numbers[group] = len(order)
                order.append(group)
            row.append((item, numbers[group]))
        told_rows.append(tuple(row))
    return Machine(base, first, tuple(told_rows))


def is_least(thing):
    return isinstance(thing, Machine) and is_sound(thing) and least(thing) == thing


def left(machine):
    return len(least(machine).rows)


def check_both(one, other):
    if one.base != other.base:
        raise OtherBase()
    check_sound(one)
    check_sound(other)


def alike_steps(one, other, key, height):
    """What an alike table that has the height for the key must have: items (place, key, height)."""
    row = one.rows[key[0]]
    beside = other.rows[key[1]]
    steps = []
    for place in range(len(row)):
        told_one, next_one = row[place]
        told_other, next_other = beside[place]
        steps.append((place, (next_one, next_other), one.base * height + told_one - told_other))
    return steps


def alike_search(one, other):
    """The alike table as far as it goes without a clash, from where each key came, and the clash or None."""
    keys = [(0, 0)]
    table = {(0, 0): one.first - other.first}
    came = {}
    at = 0
    while at < len(keys):
        key = keys[at]
        lift = table[key]
        at += 1
        for place, after, height in alike_steps(one, other, key, lift):
            if after not in table:
                table[after] = height
                came[after] = (key, place)
                keys.append(after)
            elif table[after] != height:
                return table, came, (key, place, after)
    return table, came, None


def likeness(one, other):
    check_both(one, other)
    table, came, clash = alike_search(one, other)
    if clash is None:
        return ("alike", table)
    return ("parting", parting_of(one, other, came, clash))


def parting_of(one, other, came, clash):
    """A parting: two ways come to one key with unlike heights, so one of them parts."""
    key, place, after = clash
    writing = (way_to_pair(one.base, came, after), (0,))
    if parts(one, other, writing):
        return writing
    return (way_to_pair(one.base, came, key) + (1 - one.base + place,), (0,))


def way_to_pair(base, came, key):
    at = key
    digits = []
    while at in came:
        at, place = came[at]
        digits.append(1 - base + place)
    return tuple(digits[::-1])


def parts(one, other, writing):
    return made_by_machine(one, writing) != made_by_machine(other, writing)


def are_alike(one, other):
    check_both(one, other)
    return alike_search(one, other)[2] is None


def is_parting(one, other, thing):
    check_both(one, other)
    return is_row_of_digits(one.base, thing) and parts(one, other, thing)


def is_alike_table(one, other, thing):
    check_both(one, other)
    if not is_table_of_pairs(one, other, thing) or thing.get((0, 0)) != one.first - other.first:
        return False
    for key, height in thing.items():
        for _, after, rise in alike_steps(one, other, key, height):
            if thing.get(after) != rise:
                return False
    return True


def is_table_of_pairs(one, other, thing):
    """Whether the thing is a dict from pairs (state of one, state of other) to integers."""
    if not isinstance(thing, dict):
        return False
    for key, height in thing.items():
        if not is_tuple_of(key, 2) or not is_integer(height):
            return False
        if not is_state(one, key[0]) or not is_state(other, key[1]):
            return False
    return True
