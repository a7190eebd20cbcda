"""Functions of strangers, known by their values at finitely many numbers (8.2)."""

from anywriting.errors import BadAnswer, NoFit, NoMany
from anywriting.kinds import is_integer_within
from anywriting.least import is_least
from anywriting.machines import Machine
from anywriting.ratios import floor_of, power, reduced
from anywriting.writings import check_base, is_fraction

MOST_KNOWN = 4


class Stranger:
    """What a stranger's function answers, asked once of each number.

    A place (level, top) stands for all behind so many digits that are top, read as an integer to the base.
    """

    def __init__(self, base, stranger, depth):
        self.base = base
        self.stranger = stranger
        self.depth = depth
        self.answers = {}

    def height(self, level, top):
        """The value at top, divided by the base for each level, and times the base for each level again."""
        scale = power(self.base, level)
        x = reduced(top, scale)
        if x not in self.answers:
            ask = self.stranger
            answer = ask(x)
            if not is_fraction(answer):
                raise BadAnswer(x)
            self.answers[x] = answer
        return reduced(self.answers[x][0] * scale, self.answers[x][1])

    def lift(self, place):
        """The integer that the place makes more than one that makes of 0 a fraction from 0 to below 1."""
        return floor_of(self.height(place[0], place[1]))

    def mark(self, place):
        """What the place makes, less its lift, at all numbers of so many digits as the depth is.

        Of so few states no two that are unlike make the same at all of these.
        """
        level = place[0] + self.depth
        size = power(self.base, self.depth)
        middle = place[1] * size
        taken = self.lift(place) * size
        found = []
        for top in range(middle - size + 1, middle + size):
            up, bottom = self.height(level, top)
            found.append((up - taken * bottom, bottom))
        return tuple(found)


def known(base, stranger, most):
    check_base(base)
    if not is_integer_within(most, 1, MOST_KNOWN):
        raise NoMany()
    asked = Stranger(base, stranger, most - 1)
    places = [(0, 0)]
    numbers = {asked.mark(places[0]): 0}
    rows = []
    while len(rows) < len(places):
        row = []
        level, top = places[len(rows)]
        taken = base * asked.lift((level, top))
        for digit in range(1 - base, base):
            behind = (level + 1, base * top + digit)
            mark = asked.mark(behind)
            if mark not in numbers:
                numbers[mark] = len(places)
                places.append(behind)
            if len(places) > most:
                raise NoFit()
            row.append((asked.lift(behind) - taken, numbers[mark]))
        rows.append(tuple(row))
    machine = Machine(base, asked.lift((0, 0)), tuple(rows))
    if not is_least(machine):
        raise NoFit()
    return machine
