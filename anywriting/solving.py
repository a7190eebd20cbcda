"""Solving linear equations in integers."""

from math import gcd

from anywriting.ratios import reduced


def solved(rows, sums, wanted):
    """The fraction that the wanted unknown is.

    For each unknown k of the dict rows: the unknowns, each times its integer in the dict rows[k], make sums[k].
    In each row k the integer of k is above 0, those of all others are not, and all together are not below 0; and
    from each row its unknowns lead, from row to row, to one where all together are above 0.
    """
    left = {unknown: dict(row) for unknown, row in rows.items()}
    totals = {unknown: sums[unknown] for unknown in rows}
    while len(left) > 1:
        unknown = shortest_row(left, wanted)
        row = left.pop(unknown)
        total = totals.pop(unknown)
        for other in list(left):
            if unknown in left[other]:
                left[other], totals[other] = without(unknown, row, total, left[other], totals[other])
    return reduced(totals[wanted], left[wanted][wanted])


def shortest_row(left, wanted):
    """The unknown, but the wanted one, whose row is shortest: so the other rows stay short."""
    return min([(len(row), unknown) for unknown, row in left.items() if unknown != wanted])[1]


def without(unknown, row, total, other, other_total):
    """The other row and its total, rid of the unknown by means of the unknown's own row."""
    own = row[unknown]
    times = other[unknown]
    found = {}
    for k, many in other.items():
        found[k] = own * many
    for k, many in row.items():
        found[k] = found.get(k, 0) - times * many
    found_total = own * other_total - times * total
    common = found_total
    for many in found.values():
        common = gcd(common, many)
    return {k: many // common for k, many in found.items() if many != 0}, found_total // common
