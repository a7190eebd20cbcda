"""Readers: writings read digit by digit (8.1)."""

from anywriting.errors import NoDigit, NothingDone
from anywriting.kinds import is_digit
from anywriting.machines import follow
from anywriting.most import extremes
from anywriting.ratios import plus, power, reduced


class Reader:
    """What is read of one writing; the machine may be sound or not."""

    def __init__(self, machine):
        self.machine = machine
        self.said = []
        self.states = [0]
        # What is told so far, and first ahead of it, as integers to the base.
        self.tops = [machine.first]
        # For each state the least and the most that it makes, once they are asked for.
        self.ends = None

    def tell(self, digit):
        if not is_digit(self.machine.base, digit):
            raise NoDigit()
        item, after = follow(self.machine, self.states[-1], [digit])
        self.said.append(digit)
        self.states.append(after)
        self.tops.append(self.machine.base * self.tops[-1] + item[0])
        return item[0]

    def digits(self):
        return tuple(self.said)

    def state(self):
        return self.states[-1]

    def stretch(self):
        if self.ends is None:
            self.ends = list(zip(extremes(self.machine, -1), extremes(self.machine, 1)))
        scale = power(self.machine.base, len(self.said))
        low, high = self.ends[self.states[-1]]
        return (self.placed(low, scale), self.placed(high, scale))

    def placed(self, made, scale):
        """What the machine makes if this is made behind all digits that were told."""
        top, bottom = plus((self.tops[-1], 1), made)
        return reduced(top, bottom * scale)

    def back(self):
        if len(self.said) == 0:
            raise NothingDone()
        self.said.pop()
        self.states.pop()
        self.tops.pop()

    def copy(self):
        twin = Reader(self.machine)
        twin.said = list(self.said)
        twin.states = list(self.states)
        twin.tops = list(self.tops)
        twin.ends = self.ends
        return twin
