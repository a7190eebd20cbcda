"""Desks: machines and dusts kept under names, line by line (10)."""

from math import gcd

from anywriting.distances import distance
from anywriting.dusts import between, holds
from anywriting.errors import NoLine, NoName, NothingDone
from anywriting.fillings import filled
from anywriting.greater import amount, greater, lesser
from anywriting.hands import fair
from anywriting.inner import put_in
from anywriting.kinds import is_digit
from anywriting.least import are_alike, left, lined, zoom
from anywriting.means import area
from anywriting.most import greatest, lowest
from anywriting.reading import integer_in, number_in
from anywriting.shapes import climb, pieces
from anywriting.soundness import value
from anywriting.straight import steepest
from anywriting.sums import added, mirrored, raised, times
from anywriting.texts import fraction_text
from anywriting.writings import check_base

MOST_DIGITS = 9
MOST_LETTERS = 8
MOST_TURNS = 4
LETTERS = "abcdefghijklmnopqrstuvwxyz"

# What stands behind the first word: what is to be made is a machine, or a dust; others are asked.
FORMS = {
    "line": ("new machine", "fraction", "fraction"),
    "add": ("new machine", "machine", "machine"),
    "most": ("new machine", "machine", "machine"),
    "less": ("new machine", "machine", "machine"),
    "put": ("new machine", "machine", "machine"),
    "size": ("new machine", "machine"),
    "mirror": ("new machine", "machine"),
    "scale": ("new machine", "machine", "fraction"),
    "raise": ("new machine", "machine", "fraction"),
    "zoom": ("new machine", "machine", "digits"),
    "dust": ("new dust", "fraction", "fraction"),
    "far": ("new machine", "dust"),
    "value": ("machine", "fraction"),
    "fair": ("machine", "turns"),
    "area": ("machine",),
    "climb": ("machine",),
    "steepest": ("machine",),
    "greatest": ("machine",),
    "lowest": ("machine",),
    "states": ("machine",),
    "pieces": ("machine",),
    "alike": ("machine", "machine"),
    "holds": ("dust", "fraction"),
    "filled": ("dust",),
    "undo": (),
}


class Desk:
    """What stands under the names, and for each line that can be taken back what stood there before."""

    def __init__(self, base):
        check_base(base)
        self.base = base
        self.machines = {}
        self.dusts = {}
        self.done = []

    def tell(self, line):
        word, kinds, given = self.read(line)
        self.check_names(kinds, given)
        if word == "undo":
            return self.undo()
        things = [self.thing(kind, part) for kind, part in zip(kinds, given)]
        if kinds[0] == "new machine":
            return self.put(self.machines, given[0], machine_made(self.base, word, things[1:]))
        if kinds[0] == "new dust":
            return self.put(self.dusts, given[0], between(self.base, things[1], things[2]))
        return answer(word, things)

    def read(self, line):
        """The first word of the line, the kinds of what stands behind it, and what is read of these."""
        if not isinstance(line, str) or "\n" in line:
            raise NoLine()
        words = line.split(" ")
        if words[0] not in FORMS or len(words) != len(FORMS[words[0]]) + 1:
            raise NoLine()
        kinds = FORMS[words[0]]
        given = [read_part(self.base, kind, part) for kind, part in zip(kinds, words[1:])]
        if any([part is None for part in given]):
            raise NoLine()
        return words[0], kinds, given

    def check_names(self, kinds, given):
        for kind, part in zip(kinds, given):
            if kind == "machine" and part not in self.machines or kind == "dust" and part not in self.dusts:
                raise NoName(part)

    def thing(self, kind, part):
        """What stands under a name that is asked; else the part itself."""
        if kind == "machine":
            return self.machines[part]
        return self.dusts[part] if kind == "dust" else part

    def put(self, shelf, name, made):
        self.done.append((shelf, name, shelf.get(name)))
        shelf[name] = made
        return "ok"

    def undo(self):
        if len(self.done) == 0:
            raise NothingDone()
        shelf, name, elder = self.done.pop()
        if elder is None:
            shelf.pop(name)
        else:
            shelf[name] = elder
        return "ok"


def read_part(base, kind, word):
    """What a word means as one of this kind, or None."""
    if kind == "fraction":
        return fraction_in(word)
    if kind == "digits":
        return digits_in(base, word)
    if kind == "turns":
        return turns_in(word)
    return word if 1 <= len(word) <= MOST_LETTERS and all([sign in LETTERS for sign in word]) else None


def fraction_in(word):
    parts = word.split("/")
    top = integer_in(parts[0], MOST_DIGITS)
    if len(parts) == 1 or top is None:
        return None if top is None else (top, 1)
    bottom = number_in(parts[1], MOST_DIGITS)
    if len(parts) > 2 or bottom is None or bottom < 2 or gcd(top, bottom) != 1:
        return None
    return (top, bottom)


def digits_in(base, word):
    if word == ".":
        return ()
    digits = [integer_in(part, MOST_DIGITS) for part in word.split(",")]
    return tuple(digits) if all([is_digit(base, digit) for digit in digits]) else None


def turns_in(word):
    if not 1 <= len(word) <= MOST_TURNS or not all([sign in "ml" for sign in word]):
        return None
    return tuple([sign == "m" for sign in word])


def machine_made(base, word, things):
    """The machine that a line makes of what stands behind the name."""
    one = things[0]
    if word == "far":
        return distance(one)
    if word == "size":
        return amount(one)
    if word == "mirror":
        return mirrored(one)
    other = things[1]
    if word == "line":
        return lined(base, one, other)
    if word == "add":
        return added(one, other)
    if word == "most":
        return greater(one, other)
    if word == "less":
        return lesser(one, other)
    if word == "put":
        return put_in(one, other)
    if word == "scale":
        return times(one, other)
    return raised(one, other) if word == "raise" else zoom(one, other)


def answer(word, things):
    """What a line that asks is told."""
    if word in ("alike", "holds"):
        said = are_alike(things[0], things[1]) if word == "alike" else holds(things[0], things[1])
        return "yes" if said else "no"
    if word == "states":
        return str(left(things[0]))
    if word == "pieces":
        found = pieces(things[0])
        return "endless" if found is None else str(len(found))
    return fraction_text(fraction_asked(word, things))


def fraction_asked(word, things):
    one = things[0]
    if word == "value":
        return value(one, things[1])
    if word == "fair":
        return fair(one, things[1])
    if word == "area":
        return area(one)
    if word == "climb":
        return climb(one)
    if word == "steepest":
        return steepest(one)
    if word == "filled":
        return filled(one)
    return greatest(one)[0] if word == "greatest" else lowest(one)[0]
