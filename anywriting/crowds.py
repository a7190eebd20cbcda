"""Crowds, and the pieces of functions without one (4.5)."""

from anywriting.errors import TooMany
from anywriting.lines import line_on, tiles_of
from anywriting.machines import follow, made_by_state
from anywriting.ratios import line_through, minus, plus, product_of, reduced, worth_of
from anywriting.ways import states_from, way_on, way_to
from anywriting.writings import least_writing

MOST_PIECES = 2000


def is_crowd_of(machine, lines, x):
    return is_bent_beside(machine, lines, x, 1) or is_bent_beside(machine, lines, x, -1)


def is_bent_beside(machine, lines, x, side):
    """Whether there are numbers above x (side 1) or below x (side -1), but no line between x and any of them."""
    top, bottom = x
    if top == side * bottom:
        return False
    state = 0
    seen = {}
    while (state, top) not in seen:
        seen[(state, top)] = True
        tile, _, state = tiles_of(machine, state)[tile_beside(machine.base, top, bottom, side)]
        top = machine.base * top - tile * bottom
    # This state and place come again and again, so that a line as short as can be makes one up to the end.
    low, high = reduced(top, bottom), (side, 1)
    if side < 0:
        low, high = high, low
    return line_on(machine, lines, state, low, high) is None


def tile_beside(base, top, bottom, side):
    """Which of the tiles, counted from 0, the numbers just above (side 1) or below top divided by bottom are in."""
    if side > 0:
        return base * (top + bottom) // (2 * bottom)
    return (base * (top + bottom) - 1) // (2 * bottom)


def bent_edges(machine, lines):
    """For each state the pairs (tile, next) that lead to states that are not straight: none for a straight one."""
    edges = []
    for state in range(len(lines)):
        edges.append([(tile, after) for tile, _, after in tiles_of(machine, state) if lines[after] is None])
    return edges


def crowd_of(machine, lines):
    """A crowd, or None.

    Where bends come ever nearer, tiles lead on and on to states that are not straight, so to one of them that comes
    round to itself. If it does so in one way only, and leads to no other such state, its crowd can be only where this
    way leads; else there is always a crowd where the shortest way round leads.
    """
    edges = bent_edges(machine, lines)
    done = {}
    for state in states_from(edges, [0]):
        turn = None if state in done else way_on(edges, state, {state: True})
        if turn is not None:
            x = worth_of(machine.base, way_to(edges, 0, {state: True}), turn)
            if is_crowd_of(machine, lines, x):
                return x
            for met in states_on(machine, state, turn):
                done[met] = True
    return None


def states_on(machine, state, digits):
    """The states behind each beginning of the digits."""
    return [follow(machine, state, digits[:many])[1] for many in range(len(digits))]


def pieces_of(machine, lines):
    """The list of triples (end, slope, height) of what state 0 makes, where there is no crowd."""
    edges = bent_edges(machine, lines)
    found = {state: [((1, 1), known[0], known[1])] for state, known in enumerate(lines) if known is not None}
    todo = [0]
    while len(todo) > 0:
        state = todo[-1]
        turn = way_on(edges, state, {state: True})
        missing = [after for _, after in edges[state] if after not in found]
        if state in found:
            todo.pop()
        elif turn is not None:
            found[state] = two_pieces(machine, state, worth_of(machine.base, (), turn))
        elif len(missing) > 0:
            todo.append(missing[0])
        else:
            found[state] = joined_pieces(machine, state, found)
    return found[0]


def two_pieces(machine, state, bend):
    """The pieces of a state that comes round to itself: without a crowd, it is bent there alone."""
    ends = [(-1, 1), bend, (1, 1)]
    heights = [made_by_state(machine, state, least_writing(machine.base, end)) for end in ends]
    below = line_through(ends[0], heights[0], bend, heights[1])
    above = line_through(bend, heights[1], ends[2], heights[2])
    return [(bend, below[0], below[1]), (ends[2], above[0], above[1])]


def joined_pieces(machine, state, found):
    """The pieces of a state out of those of the states behind its tiles."""
    pieces = []
    for tile, item, after in tiles_of(machine, state):
        for end, slope, height in found[after]:
            end_top = plus((tile, 1), end)
            rise = minus(plus((item, 1), height), product_of(slope, (tile, 1)))
            start = (slope, reduced(rise[0], machine.base * rise[1]))
            if len(pieces) > 0 and pieces[-1][1:] == start:
                pieces.pop()
            pieces.append((reduced(end_top[0], machine.base * end_top[1]), start[0], start[1]))
    # What stands behind one state stands in the whole, too, no matter how small.
    if len(pieces) > MOST_PIECES:
        raise TooMany(MOST_PIECES)
    return pieces
