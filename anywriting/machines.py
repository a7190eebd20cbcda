"""Machines, and what they tell and make of writings (2.1 and 2.2)."""

from anywriting.choices import worths_of
from anywriting.errors import BadMachine, NoDigits, NoState, NoWriting
from anywriting.kinds import are_digits, is_base, is_integer, is_integer_within, is_tuple_of
from anywriting.ratios import plus, worth_of
from anywriting.writings import is_row_of_digits, shortest


class Machine:
    """For each state and digit an integer that is told and the next state."""

    def __init__(self, base, first, rows):
        if not is_base(base):
            raise BadMachine("base")
        if not is_integer(first):
            raise BadMachine("first")
        if not isinstance(rows, tuple) or len(rows) == 0:
            raise BadMachine("rows")
        for state, row in enumerate(rows):
            if not is_row_of_pairs(base, len(rows), row):
                raise BadMachine(state)
        self.base = base
        self.first = first
        self.rows = rows

    def __eq__(self, other):
        if not isinstance(other, Machine):
            return False
        return self.base == other.base and self.first == other.first and self.rows == other.rows


def is_row_of_pairs(base, many, thing):
    """Whether the thing is right as the row of one of so many states."""
    return is_tuple_of(thing, 2 * base - 1) and all([is_pair_of_state(many, pair) for pair in thing])


def is_pair_of_state(many, thing):
    return is_tuple_of(thing, 2) and is_integer(thing[0]) and is_index(many, thing[1])


def is_index(many, thing):
    return is_integer_within(thing, 0, many - 1)


def is_state(machine, thing):
    return is_index(len(machine.rows), thing)


def check_state(machine, thing):
    if not is_state(machine, thing):
        raise NoState()


def check_digits(machine, thing):
    if not are_digits(machine.base, thing):
        raise NoDigits()


def check_writing(machine, thing):
    if not is_row_of_digits(machine.base, thing):
        raise NoWriting()


def read(machine, state, digits):
    check_state(machine, state)
    check_digits(machine, digits)
    return follow(machine, state, digits)


def follow(machine, state, digits):
    """What `read` tells, of a state and digits that are right."""
    at = state
    said = []
    for digit in digits:
        item, at = machine.rows[at][digit + machine.base - 1]
        said.append(item)
    return (tuple(said), at)


def told(machine, state, writing):
    check_state(machine, state)
    check_writing(machine, writing)
    ahead, again = row_told(machine, state, writing)
    return shortest(ahead, again)


def row_told(machine, state, writing):
    """The row told of a writing, not always a neat one."""
    ahead, at = follow(machine, state, writing[0])
    starts = {}
    said = []
    while at not in starts:
        starts[at] = len(said)
        part, at = follow(machine, at, writing[1])
        said.extend(part)
    cut = starts[at]
    return (ahead + tuple(said[:cut]), tuple(said[cut:]))


def makes(machine, state, writing):
    check_state(machine, state)
    check_writing(machine, writing)
    return made_by_state(machine, state, writing)


def made_by_state(machine, state, writing):
    """What `makes` tells, of a state and a writing that are right."""
    ahead, again = row_told(machine, state, writing)
    return worth_of(machine.base, ahead, again)


def made(machine, writing):
    check_writing(machine, writing)
    return made_by_machine(machine, writing)


def made_by_machine(machine, writing):
    """What `made` tells, of a writing that is right."""
    return plus((machine.first, 1), made_by_state(machine, 0, writing))


def made_of_digit(machine, digit):
    """For each state what it makes of the writing that has the digit at all places."""
    place = digit + machine.base - 1
    return worths_of(machine.base, machine.rows, [place] * len(machine.rows))
