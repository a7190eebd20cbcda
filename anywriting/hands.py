"""Two hands that write one number, one for much, one for little (6.3); machines may be sound or not."""

from anywriting.choices import played, replied
from anywriting.errors import NoChoices, NoHand, NoTurns
from anywriting.kinds import is_digit, is_integer_within, is_tuple_of
from anywriting.machines import is_state
from anywriting.ratios import plus

MOST_TURNS = 4


def check_turns(thing):
    if not isinstance(thing, tuple) or not 1 <= len(thing) <= MOST_TURNS:
        raise NoTurns()
    if not all([isinstance(turn, bool) for turn in thing]):
        raise NoTurns()


def check_hand(thing):
    if not isinstance(thing, bool):
        raise NoHand()


def are_choices(machine, turns, much, thing):
    if not isinstance(thing, dict) or len(thing) != len(machine.rows) * turns.count(much):
        return False
    for key, digit in thing.items():
        if not is_tuple_of(key, 2) or not is_state(machine, key[0]):
            return False
        if not is_integer_within(key[1], 0, len(turns) - 1) or turns[key[1]] != much:
            return False
        if not is_digit(machine.base, digit):
            return False
    return True


def moves_of(machine, turns):
    """The moves of nodes, one for each state and place in turns, places of one state behind each other."""
    many = len(turns)
    moves = []
    for row in machine.rows:
        for place in range(many):
            moves.append([(item, after * many + (place + 1) % many) for item, after in row])
    return moves


def ensured(machine, turns, much, choices):
    check_turns(turns)
    check_hand(much)
    if not are_choices(machine, turns, much, choices):
        raise NoChoices()
    chosen = []
    sides = []
    for state in range(len(machine.rows)):
        for place, turn in enumerate(turns):
            is_own = turn == much
            chosen.append(choices[(state, place)] + machine.base - 1 if is_own else 0)
            sides.append(0 if is_own else side_of(turn))
    worths = replied(machine.base, moves_of(machine, turns), chosen, sides)[1]
    return plus((machine.first, 1), worths[0])


def side_of(turn):
    return 1 if turn else -1


def played_in_turns(machine, turns):
    """The best choices of both hands, and the worths by them."""
    sides = [side_of(turn) for turn in turns] * len(machine.rows)
    return played(machine.base, moves_of(machine, turns), sides)


def best_choices(machine, turns, much):
    check_turns(turns)
    check_hand(much)
    best = played_in_turns(machine, turns)[0]
    many = len(turns)
    found = {}
    for state in range(len(machine.rows)):
        for place, turn in enumerate(turns):
            if turn == much:
                found[(state, place)] = best[state * many + place] + 1 - machine.base
    return found


def fair(machine, turns):
    check_turns(turns)
    worths = played_in_turns(machine, turns)[1]
    return plus((machine.first, 1), worths[0])
