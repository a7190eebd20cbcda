"""A function cell by cell: what it makes between one integer and the next one, the numbers taken so many times."""

from anywriting.building import ends_of
from anywriting.least import grouped, lifted_rows
from anywriting.ratios import floor_of, minus, plus, worth_of

LEFT = 0
RIGHT = 1


class Cells:
    """The cells of a least machine, no two of them an integer apart everywhere.

    A cell is what a state makes from -1 to 0 or from 0 to 1, less an integer, so that it begins from 0 to below 1;
    its row has a pair (told, cell) for each part, of as many as the base is, one after the other. A cell's place is a
    fraction from 0 to 1.
    """

    def __init__(self, machine):
        self.base = machine.base
        zooms = ends_of(machine)
        rows = {}
        lifts = []
        for state, row in enumerate(machine.rows):
            low, middle, _ = zooms[state]
            rows[2 * state + LEFT] = [(item, 2 * after + LEFT) for item, after in row[:machine.base]]
            rows[2 * state + RIGHT] = [(item, 2 * after + RIGHT) for item, after in row[machine.base - 1:]]
            lifts.extend([floor_of(low), floor_of(middle)])
        lifted = lifted_rows(machine.base, rows, lifts)
        groups = grouped(lifted, {half: 0 for half in rows}, len(rows))
        self.rows = {}
        self.starts = {}
        self.rises = {}
        for half, row in lifted.items():
            state, side = divmod(half, 2)
            start, end = zooms[state][side:side + 2]
            self.rows[groups[half]] = [(item, groups[after]) for item, after in row]
            self.starts[groups[half]] = minus(start, (lifts[half], 1))
            self.rises[groups[half]] = minus(end, start)
        # The integers by which the two cells of state 0 are higher than what it makes, and these cells.
        self.first = ((lifts[LEFT], groups[LEFT]), (lifts[RIGHT], groups[RIGHT]))
        self.kept = {}

    def step(self, cell, after):
        """How much higher than a cell, itself at 0, the cell after it is, where it goes on from the cell's end."""
        end = plus(self.starts[cell], self.rises[cell])
        return floor_of(minus(end, self.starts[after]))

    def height(self, cell, place):
        """What the cell makes of its place."""
        key = (cell, place)
        if key not in self.kept:
            ahead, again = self.told(cell, place)
            self.kept[key] = worth_of(self.base, ahead, again)
        return self.kept[key]

    def told(self, cell, place):
        """What is told of the place part by part, those ahead and then those again and again."""
        top, bottom = place
        places = {}
        said = []
        at = cell
        while (at, top) not in places:
            places[(at, top)] = len(said)
            part = min(self.base * top // bottom, self.base - 1)
            item, at = self.rows[at][part]
            top = self.base * top - part * bottom
            said.append(item)
        cut = places[(at, top)]
        return said[:cut], said[cut:]
