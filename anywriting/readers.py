"""Readers: writings read digit by digit (8.1)."""

from anywriting.errors import NoDigit, NothingDone
from anywriting.kinds import is_digit
from anywriting.machines import follow
from anywriting.most import extremes
from anywriting.ratios import plus, power, reduced


class Reader:
    """What is read of one writing; the machine may be sound or not."""

    def __init__(self, machine):
        self.machine = machine
        self.said = []
        self.states = [0]
        # What is told so far, and first ahead of it, as integers to the base.
        self.tops = [machine.first]
        self.lows = extremes(machine, -1)
        self.highs = extremes(machine, 1)

    def tell(self, digit):
        if not is_digit(self.machine.base, digit):
            raise NoDigit()
        item, after = follow(self.machine, self.states[-1], [digit])
        self.said.append(digit)
        self.states.append(after)
        self.tops.append(self.machine.base * self.tops[-1] + item[0])
        return item[0]

    def digits(self):
        return tuple(self.said)

    def state(self):
        return self.states[-1]

    def stretch(self):
        bottom = power(self.machine.base, len(self.said))
        found = []
        for ends in (self.lows, self.highs):
            top, below = plus((self.tops[-1], 1), ends[self.states[-1]])
            found.append(reduced(top, below * bottom))
        return (found[0], found[1])

    def back(self):
        if len(self.said) == 0:
            raise NothingDone()
        self.said.pop()
        self.states.pop()
        self.tops.pop()

    def copy(self):
        twin = Reader(self.machine)
        twin.said = list(self.said)
        twin.states = list(self.states)
        twin.tops = list(self.tops)
        return twin
