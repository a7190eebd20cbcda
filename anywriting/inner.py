"""One function put into another (5.2)."""

from anywriting.building import built, ends_of
from anywriting.cells import Cells
from anywriting.errors import NotWithin
from anywriting.least import check_both, least_from
from anywriting.most import extremes, greatest, lowest
from anywriting.ratios import ceiling_of, floor_of, is_below, minus, plus, worth_of


class Windows:
    """Keys (state, start, cells): what the cells, one behind the other from the integer start on and the first one at
    its own height, make at the number that the inner state makes.

    The cells of a key are all those in which something that its state makes lies, and no more.
    """

    def __init__(self, inner, cells):
        self.base = inner.base
        self.rows = inner.rows
        self.cells = cells
        self.zooms = ends_of(inner)
        self.starts = [floor_of(low) for low in extremes(inner, -1)]
        self.stops = [ceiling_of(high) for high in extremes(inner, 1)]

    def stretch(self, state, end):
        """From where to where the cells of the state go, if there are cells up to the end."""
        start = self.starts[state]
        stop = max(self.stops[state], start + 1)
        # What makes one integer alone lies in two cells, of which the first one may be the last there is.
        return (start, stop) if stop <= end else (start - 1, stop - 1)

    def heights(self, cells):
        """How high each cell is."""
        found = [0]
        for k in range(len(cells) - 1):
            found.append(found[k] + self.cells.step(cells[k], cells[k + 1]))
        return found

    def row(self, key):
        state, start, cells = key
        heights = self.heights(cells)
        end = start + len(cells)
        return [self.met(key, heights, item, self.stretch(after, self.base * end - item), after)
                for item, after in self.rows[state]]

    def met(self, key, heights, item, stretch, after):
        """The pair of an integer and a key behind a digit of which the inner state tells the item."""
        first = self.base * key[1] - item
        found = []
        for place in range(stretch[0] - first, stretch[1] - first):
            row = self.cells.rows[key[2][place // self.base]]
            found.append(row[place % self.base])
        lift = self.base * heights[(stretch[0] - first) // self.base]
        return (lift + found[0][0], (after, stretch[0], tuple([cell for _, cell in found])))

    def ends(self, key):
        state, start, cells = key
        heights = self.heights(cells)
        found = []
        for made in self.zooms[state]:
            at = min(floor_of(made) - start, len(cells) - 1)
            height = self.cells.height(cells[at], minus(made, (start + at, 1)))
            found.append(plus(height, (heights[at], 1)))
        return tuple(found)


def put_in(outer, inner):
    check_both(outer, inner)
    check_within(inner)
    least_outer = least_from(outer, 0, outer.first)
    least_inner = least_from(inner, 0, inner.first)
    cells = Cells(least_outer)
    windows = Windows(least_inner, cells)
    start, stop = windows.stretch(0, 1 - least_inner.first)
    found = [cells.first[k + least_inner.first + 1] for k in range(start, stop)]
    key = (0, start, tuple([cell for _, cell in found]))
    return built(outer.base, least_outer.first + found[0][0], key, windows)


def check_within(inner):
    for made, writing in (greatest(inner), lowest(inner)):
        if is_below((1, 1), made) or is_below(made, (-1, 1)):
            raise NotWithin(worth_of(inner.base, writing[0], writing[1]))
