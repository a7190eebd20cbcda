"""Readers: 8.1."""

from fractions import Fraction
from random import Random
from unittest import main

from anywriting.dusts import Dust
from anywriting.errors import NoDigit, NothingDone
from anywriting.machines import Machine
from anywriting.readers import Reader
from checks import Case
from dust_samples import cantor
from samples import (
    BASES, absolute_machine, deep, drawn_machine, drawn_number, frac, made_by_sum, odd_things, pair, some_writing,
    sound_machines, unsound_machine,
)


def extremes_by_steps(machine, many=130):
    """For each state about the least and the greatest that it makes: off by less than the base's power."""
    found = []
    for best in (min, max):
        worths = [Fraction(0)] * len(machine.rows)
        for _ in range(many):
            worths = [best([told + worths[after] for told, after in row]) / machine.base for row in machine.rows]
        found.append(worths)
    return list(zip(*found))


class Kept:
    """What a reader must tell, by the digits alone."""

    def __init__(self, machine, digits=()):
        self.machine = machine
        self.digits = tuple(digits)

    def state(self):
        at = 0
        for digit in self.digits:
            _, at = self.machine.rows[at][digit + self.machine.base - 1]
        return at

    def told(self):
        at = 0
        found = []
        for digit in self.digits:
            item, at = self.machine.rows[at][digit + self.machine.base - 1]
            found.append(item)
        return found

    def height(self):
        items = self.told()
        return self.machine.first + sum([Fraction(item, self.machine.base ** (k + 1)) for k, item in enumerate(items)])


class Readers(Case):
    def assert_reader(self, reader, kept, ends):
        self.assertEqual(reader.digits(), kept.digits)
        self.assertIs(type(reader.digits()), tuple)
        self.assertEqual(reader.state(), kept.state())
        stretch = reader.stretch()
        self.assertIs(type(stretch), tuple)
        scale = kept.machine.base ** len(kept.digits)
        for found, end in zip(stretch, ends[kept.state()]):
            self.assertEqual(found, pair(frac(found)))
            self.assertLess(abs((frac(found) - kept.height()) * scale - end), Fraction(1, 2 ** 60))
        return frac(stretch[0]), frac(stretch[1])

    def play(self, machine, rng, many=30):
        """Up to so many deeds; a copy goes on apart from what it was copied from."""
        ends = extremes_by_steps(machine)
        readers = [(Reader(machine), Kept(machine))]
        for _ in range(rng.randrange(1, many + 1)):
            reader, kept = rng.choice(readers)
            deed = rng.choice(("tell", "tell", "tell", "back", "copy", "wrong"))
            if deed == "tell":
                digit = rng.randrange(1 - machine.base, machine.base)
                before = self.assert_reader(reader, kept, ends)
                told = reader.tell(digit)
                kept.digits += (digit,)
                self.assertEqual(told, kept.told()[-1])
                after = self.assert_reader(reader, kept, ends)
                self.assertTrue(before[0] <= after[0] <= after[1] <= before[1])
            elif deed == "back" and kept.digits:
                self.assertIsNone(reader.back())
                kept.digits = kept.digits[:-1]
            elif deed == "back":
                self.assert_error(NothingDone, reader.back)
            elif deed == "copy":
                twin = reader.copy()
                self.assertIs(type(twin), Reader)
                self.assertFalse(twin == reader)
                self.assertTrue(twin != reader)
                readers.append((twin, Kept(machine, kept.digits)))
            else:
                self.assert_error(NoDigit, reader.tell, machine.base)
            for each, beside in readers:
                self.assert_reader(each, beside, ends)

    def test_drawn_machines(self):
        for base in BASES:
            rng = Random(base)
            for states in range(1, 7):
                for _ in range(2):
                    self.play(drawn_machine(base, states, rng), rng)
            self.play(drawn_machine(base, 3, rng, 10 ** 12), rng)

    def test_sound_machines(self):
        for base in BASES:
            rng = Random(base)
            for f, machine in sound_machines(base, 1)[::2]:
                self.play(machine, rng, 12)
                for x in [drawn_number(rng, 30) for _ in range(3)]:
                    for _ in range(2):
                        self.read_one(machine, f, some_writing(base, x, rng), x)
        self.play(unsound_machine(), Random(1))

    def read_one(self, machine, f, writing, x):
        """The value of the number lies within the stretches of each of its writings, which close in on it."""
        reader = Reader(machine)
        ahead, again = writing
        for digit in ahead + again * 3:
            low, high = reader.stretch()
            self.assertTrue(frac(low) <= f(x) <= frac(high))
            reader.tell(digit)
        low, high = reader.stretch()
        self.assertTrue(frac(low) <= f(x) <= frac(high))
        self.assertEqual(made_by_sum(machine, writing), f(x))

    def test_the_example(self):
        reader = Reader(absolute_machine())
        self.assertEqual((reader.digits(), reader.state(), reader.stretch()), ((), 0, ((0, 1), (1, 1))))
        self.assertEqual(reader.tell(1), 1)
        self.assertEqual((reader.digits(), reader.state(), reader.stretch()), ((1,), 1, ((0, 1), (1, 1))))
        self.assertEqual(reader.tell(-1), -1)
        self.assertEqual(reader.stretch(), ((0, 1), (1, 2)))
        twin = reader.copy()
        self.assertIsNone(reader.back())
        self.assertEqual((reader.digits(), twin.digits()), ((1,), (1, -1)))
        twin.tell(1)
        self.assertEqual((reader.digits(), twin.digits(), twin.stretch()), ((1,), (1, -1, 1), ((1, 4), (1, 2))))
        reader.back()
        self.assert_error(NothingDone, reader.back)
        self.assertEqual((reader.digits(), reader.state(), reader.stretch()), ((), 0, ((0, 1), (1, 1))))

    def test_no_digit(self):
        for base in BASES:
            machine = drawn_machine(base, 4, Random(base))
            reader = Reader(machine)
            reader.tell(0)
            wrong = odd_things() + [base, -base, 10 ** 30, -10 ** 30, True, False, "0", [0], (0,), deep(0, 39), reader]
            wrong += [cantor(base, 0), machine, Reader(machine), "1", b"1"]
            for thing in wrong:
                if type(thing) is int and abs(thing) < base:
                    continue
                before = (reader.digits(), reader.state(), reader.stretch())
                self.assert_error(NoDigit, reader.tell, thing)
                self.assertEqual((reader.digits(), reader.state(), reader.stretch()), before)

    def test_nothing_done(self):
        for base in BASES:
            reader = Reader(drawn_machine(base, 3, Random(base)))
            self.assert_error(NothingDone, reader.back)
            self.assert_error(NothingDone, reader.copy().back)
            reader.tell(1)
            reader.back()
            self.assert_error(NothingDone, reader.back)
            self.assertEqual((reader.digits(), reader.state()), ((), 0))

    def test_equal_to_itself_alone(self):
        machine = absolute_machine()
        reader, other = Reader(machine), Reader(machine)
        self.assertTrue(reader == reader)
        for thing in [other, reader.copy(), machine, (), None, reader.digits(), cantor(2, 0)] + odd_things():
            self.assertFalse(reader == thing)
            self.assertFalse(thing == reader)
            self.assertTrue(reader != thing)

    def test_what_was_told_is_kept_apart(self):
        reader = Reader(absolute_machine())
        reader.tell(1)
        digits = reader.digits()
        reader.tell(0)
        self.assertEqual((digits, reader.digits()), ((1,), (1, 0)))
        for name in ("tell", "digits", "state", "stretch", "back", "copy"):
            self.assertIn(name, vars(Reader))
        self.assertEqual(absolute_machine(), Machine(2, 0, absolute_machine().rows))
        self.assertNotEqual(Dust, Reader)


if __name__ == "__main__":
    main()
