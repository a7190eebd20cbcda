"""How much of the line a dust fills (7.3)."""

from anywriting.least import grouped
from anywriting.pictures import pictures_of
from anywriting.ratios import reduced
from anywriting.solving import solved
from anywriting.ways import leading_to, states_from, way_to

LENGTH = 2


def filled(dust):
    pictures, steps = pictures_of(dust)
    edges = tile_edges(dust.base, steps)
    bare = emptied(pictures, edges)
    if 0 not in bare:
        return (LENGTH, 1)
    # Of pictures that lead to no full one, nothing is filled.
    filling = leading_to(edges, [number for number in range(len(pictures)) if number not in bare])
    if 0 not in filling:
        return (0, 1)
    return share(dust.base, edges, bare, filling)


def stretch(dust):
    pictures, steps = pictures_of(dust)
    bare = emptied(pictures, tile_edges(dust.base, steps))
    full = {number: True for number in range(len(pictures)) if number not in bare}
    edges = [[(place + 1 - dust.base, after) for place, after in enumerate(step)] for step in steps]
    return way_to(edges, 0, full)


def tile_edges(base, steps):
    """For each picture the pairs (tile, number of the picture behind it)."""
    return [[(place + 1 - base, step[place]) for place in range(0, len(step), 2)] for step in steps]


def emptied(pictures, edges):
    """A dict of the pictures behind which some tiles lead to a number that is not in the dust."""
    return leading_to(edges, [number for number, picture in enumerate(pictures) if len(picture) == 0])


def share(base, edges, bare, filling):
    """How much the first picture fills, where it leads to full ones and to empty ones.

    A number that is drawn anywhere has each tile as its next one with the same chance; it is in the dust unless its
    tiles lead to the empty picture.
    """
    reached = states_from(edges, [0])
    marks = {number: mark_of(number, bare, filling) for number in reached}
    # Pictures from which the same tiles lead to full and to empty ones fill as much.
    groups = grouped({number: edges[number] for number in reached}, marks, len(reached))
    rows = {}
    sums = {}
    for number in reached:
        if marks[number] == 0 and groups[number] not in rows:
            rows[groups[number]], sums[groups[number]] = share_row(base, edges[number], groups, marks, groups[number])
    top, bottom = solved(rows, sums, groups[0])
    return reduced(LENGTH * top, bottom)


def mark_of(number, bare, filling):
    """1 for a full picture, -1 for one that fills nothing, else 0."""
    if number not in bare:
        return 1
    return 0 if number in filling else -1


def share_row(base, pairs, groups, marks, own):
    """The equation of the share of a group: the base times it is those behind the tiles, added."""
    row = {own: base}
    total = 0
    for _, after in pairs:
        if marks[after] == 0:
            row[groups[after]] = row.get(groups[after], 0) - 1
        elif marks[after] > 0:
            total += 1
    return row, total
