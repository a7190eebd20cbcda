"""Ways in a graph: a list with, for each state, the pairs (digit, next) that lead on, digits ascending."""


def edges_of(machine):
    """All pairs (digit, next) of each state."""
    lowest = 1 - machine.base
    return [[(lowest + place, pair[1]) for place, pair in enumerate(row)] for row in machine.rows]


def states_from(edges, starts):
    """The states that can be come to from those of the list of starts, as they are come to first."""
    states = list(starts)
    seen = {state: True for state in states}
    at = 0
    while at < len(states):
        state = states[at]
        at += 1
        for _, after in edges[state]:
            if after not in seen:
                seen[after] = True
                states.append(after)
    return states


def leading_to(edges, goals):
    """A dict of the states, goals themselves too, from which a state of the list of goals can be come to."""
    before = [[] for _ in edges]
    for state, pairs in enumerate(edges):
        for digit, after in pairs:
            before[after].append((digit, state))
    return {state: True for state in states_from(before, goals)}


def way_to(edges, start, goals):
    """The fewest digits, and of these the least, from start to one of the goals, or None."""
    if start in goals:
        return ()
    return way_on(edges, start, goals)


def way_on(edges, start, goals):
    """As way_to, but with one digit or more, so also round from start to itself."""
    came = {}
    queue = [start]
    at = 0
    while at < len(queue):
        state = queue[at]
        at += 1
        for digit, after in edges[state]:
            if after not in came:
                came[after] = (state, digit)
                queue.append(after)
                if after in goals:
                    return way_back(came, start, after)
    return None


def way_back(came, start, goal):
    """The digits of the way that came from start to the goal."""
    state, digit = came[goal]
    digits = [digit]
    while state != start:
        state, digit = came[state]
        digits.append(digit)
    return tuple(digits[::-1])
