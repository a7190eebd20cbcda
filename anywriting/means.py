"""Areas and means (6.2)."""

from math import lcm

from anywriting.errors import NoChances
from anywriting.kinds import is_tuple_of
from anywriting.lines import lines_of
from anywriting.ratios import height_at, plus, product_of, reduced
from anywriting.solving import solved
from anywriting.soundness import check_sound, is_sound
from anywriting.ways import states_from
from anywriting.writings import is_fraction


def area(machine):
    check_sound(machine)
    # A number that is drawn anywhere from -1 to 1 has each tile as its next one with the same chance.
    weights = [1 - place % 2 for place in range(2 * machine.base - 1)]
    return product_of((2, 1), mean_by(machine, weights, machine.base, lines_of(machine)))


def mean(machine, chances):
    if not are_chances(machine.base, chances):
        raise NoChances()
    whole = common_bottom(chances)
    weights = [top * (whole // bottom) for top, bottom in chances]
    lines = lines_of(machine) if is_sound(machine) else [None] * len(machine.rows)
    return mean_by(machine, weights, whole, lines)


def are_chances(base, thing):
    if not is_tuple_of(thing, 2 * base - 1) or not all([is_fraction(chance) for chance in thing]):
        return False
    total = (0, 1)
    for chance in thing:
        total = plus(total, chance)
    return total == (1, 1) and all([chance[0] >= 0 for chance in thing])


def common_bottom(fractions):
    common = 1
    for _, bottom in fractions:
        common = lcm(common, bottom)
    return common


def mean_by(machine, weights, whole, lines):
    """The mean of what the machine makes if each digit has its weight, divided by the whole of them, as its chance.

    Of states that are straight, by their lines, it is known without reckoning.
    """
    drift = (0, 1)
    for place, weight in enumerate(weights):
        drift = plus(drift, reduced(weight * (place + 1 - machine.base), whole * (machine.base - 1)))
    known = {state: height_at(line, drift) for state, line in enumerate(lines) if line is not None}
    if 0 in known:
        return plus((machine.first, 1), known[0])
    common = common_bottom(list(known.values()))
    rows = {}
    totals = {}
    for state in states_from(likely_edges(machine, weights, known), [0]):
        rows[state], totals[state] = mean_row(machine, weights, whole, known, common, state)
    top, bottom = solved(rows, totals, 0)
    return plus((machine.first, 1), reduced(top, bottom * common))


def likely_edges(machine, weights, known):
    """For each state the pairs (place, next) with a weight, next not known."""
    edges = []
    for row in machine.rows:
        edges.append([(k, pair[1]) for k, pair in enumerate(row) if weights[k] > 0 and pair[1] not in known])
    return edges


def mean_row(machine, weights, whole, known, common, state):
    """The equation of the mean of a state, common times as much: the base times it is what is behind each digit."""
    row = {state: machine.base * whole}
    total = 0
    for weight, (item, after) in zip(weights, machine.rows[state]):
        total += weight * item * common
        if after in known:
            total += weight * known[after][0] * (common // known[after][1])
        elif weight > 0:
            row[after] = row.get(after, 0) - weight
    return row, total
