"""Whether all writings of a number make the same: gap tables, flaws, values (2.3 to 2.5)."""

from anywriting.errors import Unsound
from anywriting.kinds import is_integer, is_integer_within, is_tuple_of
from anywriting.machines import is_state, made_by_machine, made_by_state
from anywriting.ratios import worth_of
from anywriting.writings import check_number, is_row_of_digits, least_writing

WIDEST = 2


def gap_moves(base):
    """For each gap the triples (place, place, gap) of two digits' places and the gap behind these."""
    digits = range(2 * base - 1)
    moves = {}
    for gap in range(-WIDEST, WIDEST + 1):
        moves[gap] = [
            (i, j, base * gap + i - j) for i in digits for j in digits if abs(base * gap + i - j) <= WIDEST
        ]
    return moves


def gap_steps(machine, moves, key, height):
    """What a gap table that has the height for the key must have: items (place, place, key, height)."""
    one, other, gap = key
    row = machine.rows[one]
    beside = machine.rows[other]
    steps = []
    for i, j, after in moves[gap]:
        told_one, next_one = row[i]
        told_other, next_other = beside[j]
        rise = machine.base * height + told_one - told_other
        steps.append((i, j, (next_one, next_other, after), rise))
    return steps


def gap_search(machine):
    """The table as far as it goes without a clash, from where each key came, and the clash or None."""
    moves = gap_moves(machine.base)
    keys = [(state, state, 0) for state in range(len(machine.rows))]
    table = {key: 0 for key in keys}
    came = {}
    at = 0
    while at < len(keys):
        key = keys[at]
        lift = table[key]
        at += 1
        for i, j, after, height in gap_steps(machine, moves, key, lift):
            if after not in table:
                table[after] = height
                came[after] = (key, i, j)
                keys.append(after)
            elif table[after] != height:
                return table, came, (key, i, j, after)
    return table, came, None


def soundness(machine):
    table, came, clash = gap_search(machine)
    if clash is None:
        return ("sound", table)
    return ("flaw", flaw_of(machine, came, clash))


def is_sound(machine):
    return gap_search(machine)[2] is None


def check_sound(machine):
    if not is_sound(machine):
        raise Unsound()


def flaw_of(machine, came, clash):
    """A flaw: two ways come to one key with unlike heights, so one of them is wrong."""
    key, i, j, after = clash
    state, ahead, beside = way_to_key(machine.base, came, after)
    one, other = tails(machine.base, after[2])
    flaw = (state, (ahead, one), (beside, other))
    if is_flaw(machine, flaw):
        return flaw
    state, ahead, beside = way_to_key(machine.base, came, key)
    lowest = 1 - machine.base
    return (state, (ahead + (lowest + i,), one), (beside + (lowest + j,), other))


def way_to_key(base, came, key):
    """The state from which the key was come to first, and the two tuples of digits."""
    at = key
    ahead = []
    beside = []
    while at in came:
        at, i, j = came[at]
        ahead.append(1 - base + i)
        beside.append(1 - base + j)
    return at[0], tuple(ahead[::-1]), tuple(beside[::-1])


def tails(base, gap):
    """The rounds of two writings, of which the second one writes as much more as the gap tells."""
    high = base - 1
    rounds = {-2: (high, -high), -1: (0, -high), 0: (0, 0), 1: (0, high), 2: (-high, high)}
    one, other = rounds[gap]
    return (one,), (other,)


def is_flaw(machine, thing):
    if not is_tuple_of(thing, 3) or not is_state(machine, thing[0]):
        return False
    state, one, other = thing
    if not is_row_of_digits(machine.base, one) or not is_row_of_digits(machine.base, other):
        return False
    if worth_of(machine.base, one[0], one[1]) != worth_of(machine.base, other[0], other[1]):
        return False
    return made_by_state(machine, state, one) != made_by_state(machine, state, other)


def is_gap_table(machine, thing):
    if not is_table_of_gaps(machine, thing):
        return False
    for state in range(len(machine.rows)):
        if thing.get((state, state, 0)) != 0:
            return False
    moves = gap_moves(machine.base)
    for key, height in thing.items():
        for _, _, after, rise in gap_steps(machine, moves, key, height):
            if thing.get(after) != rise:
                return False
    return True


def is_table_of_gaps(machine, thing):
    """Whether the thing is a dict from triples (state, state, gap) to integers."""
    if not isinstance(thing, dict):
        return False
    for key, height in thing.items():
        if not is_tuple_of(key, 3) or not is_integer(height):
            return False
        if not is_state(machine, key[0]) or not is_state(machine, key[1]):
            return False
        if not is_integer_within(key[2], -WIDEST, WIDEST):
            return False
    return True


def value(machine, x):
    check_sound(machine)
    check_number(x)
    return value_at(machine, x)


def value_at(machine, x):
    """What `value` tells, of a sound machine and a number that are right."""
    return made_by_machine(machine, least_writing(machine.base, x))
