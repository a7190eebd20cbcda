"""What the document promises over the whole program: one function through all parts, equality, errors."""

from fractions import Fraction
from random import Random
from unittest import main

from anywriting import errors
from anywriting.desks import Desk
from anywriting.distances import apart, distance
from anywriting.dusts import Dust, between, bounds
from anywriting.errors import WritingError
from anywriting.greater import amount, greater
from anywriting.images import image, noughts, standing
from anywriting.least import is_least, least, left, lined
from anywriting.machines import Machine
from anywriting.means import area
from anywriting.most import greatest, lowest
from anywriting.readers import Reader
from anywriting.reading import read_dust, read_machine
from anywriting.shapes import climb, dent, fall, pieces
from anywriting.soundness import soundness, value
from anywriting.straight import slopes, steepest
from anywriting.strangers import known
from anywriting.sums import added, raised, times
from anywriting.texts import dust_text, machine_text
from checks import Case
from samples import BASES, absolute_machine, drawn_number, frac, odd_things, pair, some_writing


class OneFunction(Case):
    def ways_to_it(self, base, x):
        """How far numbers are from x, told in many ways: all of them are one least machine."""
        line = lined(base, (1, 1), pair(-x))
        back = times(line, (-1, 1))
        desk = Desk(base)
        word = "{}/{}".format(x.numerator, x.denominator) if x.denominator > 1 else str(x.numerator)
        for told in ("dust d {0} {0}".format(word), "far f d"):
            self.assertEqual(desk.tell(told), "ok")
        found = [
            distance(between(base, pair(x), pair(x))), amount(line), greater(line, back),
            amount(raised(lined(base, (-1, 1), (0, 1)), pair(x))), distance(noughts(line)), distance(noughts(amount(line))),
            distance(standing(added(line, lined(base, (1, 1), (0, 1))))), distance(image(lined(base, (0, 1), pair(x)), between(base, (0, 1), (1, 1)))),
        ]
        self.assertEqual(desk.tell("steepest f"), "1")
        return found

    def test_how_far_from_one_number(self):
        for base in BASES:
            rng = Random(base)
            for x in [Fraction(0), Fraction(1, base), Fraction(-1, 3), Fraction(1), Fraction(-1), Fraction(5, 7)]:
                found = self.ways_to_it(base, x)
                machine = found[0]
                self.assertTrue(all([other == machine for other in found]), (base, x))
                self.assert_flag(True, is_least(machine))
                self.assertEqual(read_machine(machine_text(machine)), machine)
                self.assertEqual(least(machine), machine)
                if len(machine.rows) <= 4:
                    self.assertEqual(known(base, lambda z: pair(abs(frac(z) - x)), 4), machine)
                self.assert_told(base, machine, x)
                for z in [drawn_number(rng, 40) for _ in range(5)]:
                    self.assertEqual(value(machine, pair(z)), pair(abs(z - x)))
                    reader = Reader(machine)
                    ahead, again = some_writing(base, z, rng)
                    for digit in (ahead + again * 2)[:25]:
                        reader.tell(digit)
                        low, high = reader.stretch()
                        self.assertTrue(frac(low) <= abs(z - x) <= frac(high))

    def test_by_a_desk(self):
        for base in BASES:
            for x in (Fraction(0), Fraction(1, 2), Fraction(-2, 3)):
                word = "{}/{}".format(x.numerator, x.denominator) if x.denominator > 1 else str(x.numerator)
                back = "{}/{}".format(-x.numerator, x.denominator) if x.denominator > 1 else str(-x.numerator)
                desk = Desk(base)
                for line in ("line a 1 " + back, "size b a", "scale c a -1", "most e a c", "dust d {0} {0}".format(word), "far f d"):
                    self.assertEqual(desk.tell(line), "ok")
                for one, other in (("b", "e"), ("e", "f"), ("f", "b")):
                    self.assertEqual(desk.tell("alike {} {}".format(one, other)), "yes")
                self.assertEqual(desk.tell("value f " + word), "0")
                self.assertEqual(desk.tell("pieces f"), "2")

    def assert_told(self, base, machine, x):
        """What is told of its two lines."""
        inner = -1 < x < 1
        found = {Fraction(-1)} if x == 1 else {Fraction(1)} if x == -1 else {Fraction(-1), Fraction(1)}
        self.assertEqual(slopes(machine), tuple([pair(slope) for slope in sorted(found)]))
        self.assertEqual((steepest(machine), climb(machine)), ((1, 1), (2, 1)))
        self.assertEqual(area(machine), pair(((1 + x) ** 2 + (1 - x) ** 2) / 2))
        self.assertEqual((greatest(machine)[0], lowest(machine)[0]), (pair(1 + abs(x)), (0, 1)))
        expected = ((pair(x), (-1, 1), pair(x)), ((1, 1), (1, 1), pair(-x)))
        self.assertEqual(pieces(machine), expected if inner else expected[:1] if x == 1 else expected[1:])
        self.assertEqual(bounds(noughts(machine)), (pair(x), pair(x)))
        # Less than the number itself by x to the right of x: it is x / 2 that is as far from x as it is great.
        fixed = standing(machine)
        if x == 0:
            self.assertEqual(bounds(fixed), ((0, 1), (1, 1)))
        elif x > 0:
            self.assertEqual(bounds(fixed), (pair(x / 2), pair(x / 2)))
        else:
            self.assertIsNone(fixed)
        self.assertEqual(fall(machine) is None, x == -1)
        self.assertIsNone(dent(machine))
        self.assertEqual(soundness(machine)[0], "sound")
        self.assertGreaterEqual(left(machine), 1)
        dust = noughts(machine)
        self.assertEqual(read_dust(dust_text(dust)), dust)
        self.assertEqual(apart(dust, between(base, pair(x), pair(x)))[0], (0, 1))


class Equality(Case):
    def test_each_class_is_equal_to_nothing_of_another(self):
        things = [
            absolute_machine(), Dust(2, (((0, 0),),)), Reader(absolute_machine()), Desk(2), Machine(2, 1, absolute_machine().rows),
            Dust(3, (((0, 0),),)), Reader(absolute_machine()), Desk(2), errors.NoBase(), errors.BadText(1), errors.TooMany(400),
        ]
        for k, one in enumerate(things):
            self.assertTrue(one == one)
            for other in things[k + 1:] + odd_things():
                if not (isinstance(other, Machine) and isinstance(one, Machine)):
                    self.assertFalse(one == other)
                    self.assertFalse(other == one)
                    self.assertTrue(one != other)

    def test_all_errors(self):
        fields = {
            "TooMany": "most", "BadMachine": "part", "NotWithin": "x", "BadDust": "part", "BadAnswer": "x", "BadText": "line",
            "NoName": "name",
        }
        for name in (
            "NoBase NoRow NoNumber NoMany TooMany BadMachine NoState NoDigits NoWriting Unsound NoFraction OtherBase NotWithin "
            "NoChances NoTurns NoHand NoChoices BadDust NoDigit NothingDone BadAnswer NoFit BadText NoLine NoName"
        ).split():
            kind = getattr(errors, name)
            self.assertEqual(kind.__bases__, (WritingError,))
            for thing in odd_things()[:12] if name in fields else [None]:
                error = kind(thing) if name in fields else kind()
                if name in fields:
                    self.assertIs(getattr(error, fields[name]), thing)
                self.assertIsInstance(error, ValueError)
        self.assertEqual(WritingError.__bases__, (ValueError,))


if __name__ == "__main__":
    main()
