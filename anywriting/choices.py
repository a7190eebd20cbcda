"""Going on by choices.

Each node of a list of moves has one move or more, pairs (told, next). Who goes on and on from a node by one choice at
each node, the index of a move, makes the worth of all that is told: the node makes this fraction by these choices.
"""

from anywriting.ratios import reduced, worth_of


def worths_of(base, moves, chosen):
    """For each node what it makes by the choices."""
    found = {}
    for node in range(len(moves)):
        way = []
        at = node
        while at not in found:
            way.append(at)
            # A guess ends the walk where it comes round; it is set right below.
            found[at] = None
            at = moves[at][chosen[at]][1]
        if found[at] is None:
            found[at] = worth_of_round(base, moves, chosen, at)
        for step in reversed(way):
            item, after = moves[step][chosen[step]]
            top, bottom = found[after]
            found[step] = reduced(item * bottom + top, base * bottom)
    return [found[node] for node in range(len(moves))]


def worth_of_round(base, moves, chosen, start):
    """What a node makes to which the choices lead back."""
    item, at = moves[start][chosen[start]]
    said = [item]
    while at != start:
        item, at = moves[at][chosen[at]]
        said.append(item)
    return worth_of(base, (), said)


def bettered(moves, chosen, worths, sides):
    """The choices, each one of a node of side 1 or -1 changed to what makes most or least if the worths are behind.

    A choice than which none is better stays, and so does each one of a node of side 0.
    """
    found = []
    for node, side in enumerate(sides):
        best = chosen[node]
        if side != 0:
            for move in range(len(moves[node])):
                if is_better(side, moves[node][move], moves[node][best], worths):
                    best = move
        found.append(best)
    return found


def is_better(side, move, other, worths):
    """Whether the move makes more (side 1) or less (side -1) than the other one."""
    top, bottom = worths[move[1]]
    other_top, other_bottom = worths[other[1]]
    more = (move[0] * bottom + top) * other_bottom - (other[0] * other_bottom + other_top) * bottom
    return side * more > 0


def replied(base, moves, chosen, sides):
    """The best choices of all nodes of the one side, 1 or -1, that there is beside 0; and the worths by them.

    No node is the worse for any change, so that no choices come twice.
    """
    best = chosen
    while True:
        worths = worths_of(base, moves, best)
        better = bettered(moves, best, worths, sides)
        if better == best:
            return best, worths
        best = better


def played(base, moves, sides):
    """The best choices of all nodes, each against all of the other side; and the worths by them."""
    most = [max(side, 0) for side in sides]
    least = [min(side, 0) for side in sides]
    best = bettered(moves, [0] * len(moves), [(0, 1)] * len(moves), sides)
    while True:
        best, worths = replied(base, moves, best, least)
        better = bettered(moves, best, worths, most)
        if better == best:
            return best, worths
        best = better


def way_by(moves, chosen, start):
    """The choices made from the start on: those ahead, and those that come again and again."""
    places = {}
    made = []
    at = start
    while at not in places:
        places[at] = len(made)
        made.append(chosen[at])
        at = moves[at][chosen[at]][1]
    return tuple(made[:places[at]]), tuple(made[places[at]:])
