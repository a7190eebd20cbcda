"""The greater and the lesser of two functions, and amounts (5.1)."""

from anywriting.building import built, ends_of
from anywriting.least import check_both, grouped, least_from
from anywriting.lines import first_slopes, lines_of
from anywriting.machines import Machine
from anywriting.ratios import ceiling_of, floor_of, is_below, minus, plus, size_of
from anywriting.soundness import check_sound
from anywriting.straight import slopes_of
from anywriting.ways import edges_of


class Betters:
    """Keys (p, q, k), k an integer: at each number the greater (side 1) or the lesser (side -1) one of what the state
    p makes, and k, and of what the state q makes. Keys (p, p, 0) stand for the state p alone.

    No two states of the machine may make functions that are an integer apart everywhere.
    """

    def __init__(self, machine, side):
        self.base = machine.base
        self.rows = machine.rows
        self.side = side
        self.zooms = ends_of(machine)
        lines = lines_of(machine)
        edges = edges_of(machine)
        found = slopes_of(lines)
        self.lowest = first_slopes(edges, lines, found)
        self.highest = first_slopes(edges, lines, found[::-1])
        self.barriers = {}

    def barrier(self, p, q):
        """A pair (low, high): k from high on lifts p nowhere below q, k up to low lifts it nowhere above."""
        if (p, q) not in self.barriers:
            rising = size_of(minus(self.highest[p], self.lowest[q]))
            falling = size_of(minus(self.highest[q], self.lowest[p]))
            # Almost everywhere both are straight, so they come no faster together than their slopes let them.
            most = falling if is_below(rising, falling) else rising
            apart = minus(self.zooms[q][1], self.zooms[p][1])
            self.barriers[(p, q)] = (floor_of(minus(apart, most)), ceiling_of(plus(apart, most)))
        return self.barriers[(p, q)]

    def met(self, p, q, k):
        """The pair of an integer and a key that make what the states p, lifted by k, and q call for."""
        if p == q:
            return (max(k, 0) if self.side > 0 else min(k, 0), (p, p, 0))
        low, high = self.barrier(p, q)
        if low < k < high:
            return (0, (p, q, k))
        if (k >= high) == (self.side > 0):
            return (k, (p, p, 0))
        return (0, (q, q, 0))

    def row(self, key):
        p, q, k = key
        found = []
        for (told_p, after_p), (told_q, after_q) in zip(self.rows[p], self.rows[q]):
            item, after = self.met(after_p, after_q, self.base * k + told_p - told_q)
            found.append((told_q + item, after))
        return found

    def ends(self, key):
        p, q, k = key
        found = []
        for x, y in zip(self.zooms[p], self.zooms[q]):
            lifted = plus(x, (k, 1))
            found.append(lifted if is_below(y, lifted) == (self.side > 0) else y)
        return tuple(found)


def greater(one, other):
    check_both(one, other)
    return better_of(one, other, 1)


def lesser(one, other):
    check_both(one, other)
    return better_of(one, other, -1)


def amount(machine):
    check_sound(machine)
    rows = tuple([tuple([(-item, after) for item, after in row]) for row in machine.rows])
    return better_of(machine, Machine(machine.base, -machine.first, rows), 1)


def better_of(one, other, side):
    """The greater (side 1) or the lesser (side -1) of two sound machines of one base."""
    least_one = least_from(one, 0, one.first)
    least_other = least_from(other, 0, other.first)
    machine, start, beside = joined(least_one, least_other)
    betters = Betters(machine, side)
    item, key = betters.met(start, beside, least_one.first - least_other.first)
    return built(one.base, least_other.first + item, key, betters)


def joined(one, other):
    """A machine with the states of two least ones, those of one function once, and the state that each one begins in.

    The machine's own beginning means nothing.
    """
    many = len(one.rows)
    rows = {state: row for state, row in enumerate(one.rows)}
    for state, row in enumerate(other.rows):
        rows[many + state] = [(item, many + after) for item, after in row]
    groups = grouped(rows, {state: 0 for state in rows}, len(rows))
    told = {groups[state]: tuple([(item, groups[after]) for item, after in row]) for state, row in rows.items()}
    machine = Machine(one.base, 0, tuple([told[group] for group in range(len(told))]))
    return machine, groups[0], groups[many]
