"""Desks: 10."""

from fractions import Fraction
from random import Random
from unittest import main

from anywriting import errors
from anywriting.desks import Desk, answer
from anywriting.distances import distance
from anywriting.dusts import between, holds
from anywriting.errors import NoBase, NoLine, NoName, NoNumber, NothingDone, NotWithin, TooMany, WritingError
from anywriting.fillings import filled
from anywriting.greater import amount, greater, lesser
from anywriting.hands import fair
from anywriting.inner import put_in
from anywriting.least import are_alike, left, lined, zoom
from anywriting.means import area
from anywriting.most import greatest, lowest
from anywriting.readers import Reader
from anywriting.shapes import climb, pieces
from anywriting.soundness import value
from anywriting.straight import steepest
from anywriting.sums import added, mirrored, raised, times
from checks import Case
from dust_samples import cantor
from samples import BASES, absolute_machine, crowded, deep, frac, odd_things
import lines_samples as corners

ONE = Fraction(1)


def written(x):
    """A fraction as a line of a desk has it."""
    x = Fraction(x)
    return "{}/{}".format(x.numerator, x.denominator) if x.denominator > 1 else str(x.numerator)


def text(one):
    return written(frac(one))


class Desks(Case):
    def assert_line(self, desk, line, said="ok"):
        told = desk.tell(line)
        self.assertEqual((type(told), told), (str, said), line)

    def assert_lines(self, desk, lines):
        for line in lines:
            self.assert_line(desk, line)

    def stand(self, desk, names):
        """What the desk tells of its names."""
        found = []
        for name in names:
            for line in ("states {}", "area {}", "climb {}", "value {} 1/3", "filled {}", "holds {} 1/3"):
                try:
                    found.append(desk.tell(line.format(name)))
                except NoName as error:
                    found.append(error.name)
        return found


class Lines(Desks):
    def test_each_line(self):
        for base in BASES:
            desk = Desk(base)
            x, y = lined(base, (1, 1), (0, 1)), lined(base, (-1, 2), (1, base))
            dust = between(base, (-1, 3), (1, 2))
            made = [
                ("line x 1 0", x), ("line y -1/2 1/{}".format(base), y), ("add a x y", added(x, y)), ("most b x y", greater(x, y)),
                ("less c x y", lesser(x, y)), ("put d x y", put_in(x, y)), ("put e y x", put_in(y, x)), ("size f x", amount(x)),
                ("mirror g y", mirrored(y)), ("scale h y -3/2", times(y, (-3, 2))), ("raise i y 7", raised(y, (7, 1))),
                ("zoom j f 1,-1,0", zoom(amount(x), (1, -1, 0))), ("zoom k f .", zoom(amount(x), ())),
            ]
            for line, _ in made:
                self.assert_line(desk, line)
            self.assert_line(desk, "dust abcdefgh -1/3 1/2")
            self.assert_line(desk, "far l abcdefgh")
            made.append(("far l abcdefgh", distance(dust)))
            for line, machine in made:
                self.assert_asked(desk, line.split(" ")[1], machine)
            for z in ((0, 1), (1, 2), (-1, 3), (51, 100), (-1, 1)):
                self.assert_line(desk, "holds abcdefgh " + text(z), "yes" if holds(dust, z) else "no")
            self.assert_line(desk, "filled abcdefgh", text(filled(dust)))
            for one, machine in made:
                for other, beside in made:
                    names = one.split(" ")[1] + " " + other.split(" ")[1]
                    self.assert_line(desk, "alike " + names, "yes" if are_alike(machine, beside) else "no")

    def assert_asked(self, desk, name, machine):
        """All lines that ask of a machine are told as the functions tell."""
        for z in ((0, 1), (1, 1), (-2, 3), (17, 60)):
            self.assert_line(desk, "value {} {}".format(name, text(z)), text(value(machine, z)))
        for turns in ("m", "l", "ml", "lm", "mmll", "lmlm"):
            flags = tuple([letter == "m" for letter in turns])
            self.assert_line(desk, "fair {} {}".format(name, turns), text(fair(machine, flags)))
        for word, told in (
            ("area", area(machine)), ("climb", climb(machine)), ("steepest", steepest(machine)), ("greatest", greatest(machine)[0]),
            ("lowest", lowest(machine)[0]), ("states", (left(machine), 1)),
        ):
            self.assert_line(desk, word + " " + name, text(told))
        found = pieces(machine)
        self.assert_line(desk, "pieces " + name, "endless" if found is None else str(len(found)))

    def test_how_many_pieces(self):
        desk = Desk(3)
        self.assert_lines(desk, ["line x 1 0", "size b x", "scale b b 2", "raise b b -1"])
        for many in (4, 8, 16):
            self.assert_line(desk, "put b b b" if many == 4 else "put b a b")
            self.assert_line(desk, "pieces b", str(many))
            if many == 4:
                self.assert_lines(desk, ["size a x", "scale a a 2", "raise a a -1"])
        self.assert_lines(desk, ["dust d 0 0", "far e d", "size f x"])
        self.assert_line(desk, "alike f e", "yes")
        # No line of a desk makes a function with a crowd, but one would be told so.
        for base in BASES:
            for _, _, machine in crowded(base):
                self.assertEqual(answer("pieces", [machine]), "endless")

    def test_the_name_of_an_elder_one(self):
        desk = Desk(2)
        self.assert_lines(desk, ["line x 1 0", "dust x 0 1/2"])
        self.assert_line(desk, "value x 1/2", "1/2")
        self.assert_line(desk, "filled x", "1/2")
        self.assert_lines(desk, ["line x 2 1", "add x x x", "far x x"])
        self.assert_line(desk, "value x -1", "1")
        self.assert_lines(desk, ["dust x -1 1", "undo"])
        self.assert_line(desk, "filled x", "1/2")
        self.assert_line(desk, "undo")
        self.assert_line(desk, "value x -1", "-2")
        self.assert_line(desk, "undo")
        self.assert_line(desk, "value x -1", "-1")
        self.assert_lines(desk, ["undo", "undo"])
        self.assert_line(desk, "value x -1", "-1")
        self.assertEqual(self.assert_error(NoName, desk.tell, "filled x").name, "x")
        self.assert_line(desk, "undo")
        self.assertEqual(self.assert_error(NoName, desk.tell, "value x -1").name, "x")
        self.assert_error(NothingDone, desk.tell, "undo")

    def test_undo(self):
        for base in BASES:
            desk = Desk(base)
            self.assert_error(NothingDone, desk.tell, "undo")
            names = ("a", "b", "c")
            lines = ["line a 1 0", "line b -1/2 0", "add a a b", "dust a -1 0", "most c a b", "far a a", "line a 0 1/2", "dust a 0 1"]
            stood = [self.stand(desk, names)]
            for line in lines:
                self.assert_line(desk, line)
                stood.append(self.stand(desk, names))
            for before in stood[:-1][::-1]:
                self.assert_line(desk, "undo")
                self.assertEqual(self.stand(desk, names), before)
            for _ in range(2):
                self.assert_error(NothingDone, desk.tell, "undo")
            # What was taken back can be done again; undo itself is not taken back.
            self.assert_lines(desk, lines[:3] + ["undo", lines[2], "undo", "undo"])
            self.assertEqual(self.stand(desk, names), stood[1])


class Wrong(Desks):
    def full_desk(self, base=3):
        desk = Desk(base)
        self.assert_lines(desk, ["line a 1 0", "line b 1/2 1/3", "dust d -1/3 1/2", "dust e 0 0"])
        return desk

    def assert_wrong(self, desk, error, line):
        """Just this error, and nothing changes."""
        before = self.stand(desk, ("a", "b", "d", "e", "x"))
        found = self.assert_error(error, desk.tell, line)
        self.assertEqual(self.stand(desk, ("a", "b", "d", "e", "x")), before, line)
        return found

    def test_no_base(self):
        for thing in odd_things() + [1, 6, True, "2", (2,), deep(2, 39), absolute_machine(), cantor(2, 0), Reader(absolute_machine())]:
            self.assert_error(NoBase, Desk, thing)
        for base in BASES:
            self.assertIsInstance(Desk(base), Desk)

    def test_no_string(self):
        desk = self.full_desk()
        for thing in odd_things() + [b"undo", ["undo"], ("undo",), deep("undo", 39), desk, absolute_machine(), cantor(2, 0)]:
            self.assert_error(NoLine, desk.tell, thing)
        self.assert_wrong(desk, NoLine, None)

    def test_no_line(self):
        desk = self.full_desk()
        wrong = [
            "", " ", "undo ", " undo", "undo x", "Undo", "undo\n", "\n", "line", "line x", "line x 1", "line x 1 0 0", "line  x 1 0",
            "line x 1  0", " line x 1 0", "line x 1 0 ", "line x 1 0\n", "line\nx 1 0", "line x\t1 0", "lines x 1 0", "LINE x 1 0",
            "line  1 0", "line X 1 0", "line x1 1 0", "line abcdefghi 1 0", "line x- 1 0", "line \u00e9 1 0", "line x 2/4 0",
            "line x 1/1 0", "line x 0/5 0", "line x 0/1 0", "line x 1/0 0", "line x 1/-2 0", "line x -1/-2 0", "line x 1/2/3 0",
            "line x /2 0", "line x 1/ 0", "line x / 0", "line x +1 0", "line x -0 0", "line x 00 0", "line x 01 0", "line x 1/02 0",
            "line x 1.5 0", "line x 1234567890 0", "line x 1 -1234567890", "line x 1/1234567891 0", "line x a 0", "line x 1 x",
            "line x - 0", "line x -/2 0", "line x \u0661 0", "line x 1 0\r", "add x a", "add x a b b", "add x a  b", "add x a B",
            "add x a 1", "most x a", "less x a b a", "put x a", "put x a b c", "size x", "size x a b", "mirror x", "mirror x a a",
            "scale x a", "scale x a b", "scale x a 2/6", "scale x a 1 1", "raise x a", "raise x a 4/2", "raise x a 1,2", "zoom x a",
            "zoom x a ", "zoom x a 3", "zoom x a -3", "zoom x a 1,", "zoom x a ,1", "zoom x a 1,,1", "zoom x a 1, 1", "zoom x a ..",
            "zoom x a .,1", "zoom x a 1,3", "zoom x a 01", "zoom x a -0", "zoom x a +1", "zoom x a 1/2", "zoom x a 1234567890",
            "dust x 0", "dust x 0 1/2 1", "dust x 0 2/4", "far x", "far x d d", "far x 1", "value a", "value a b", "value a 1 1",
            "value a 2/4", "value a 1/1", "fair a", "fair a mlmlm", "fair a n", "fair a M", "fair a m,l", "fair a m l", "fair a ",
            "area", "area a a", "area a ", "climb", "climb A", "steepest a b", "greatest", "lowest a 1", "states", "pieces a b",
            "alike a", "alike a b c", "holds d", "holds d e", "holds d 2/4", "filled", "filled d 1", "undo undo", "value a 0 ", "a",
            "tell a", "value\u00a0a 0", "line x 1 0\n\n", "x" * 20000, " " * 20000,
        ]
        for line in wrong:
            self.assert_wrong(desk, NoLine, line)

    def test_no_line_ahead_of_no_name_ahead_of_others(self):
        desk = self.full_desk()
        for line in ("add x p q r", "add x p Q", "value p 2/4", "zoom x p 7", "fair p x", "scale p q 1/1", "value p  2"):
            self.assert_wrong(desk, NoLine, line)
        for line, name in (
            ("add x p q", "p"), ("add x a q", "q"), ("add x q a", "q"), ("add p a d", "d"), ("most x d a", "d"), ("less x e d", "e"),
            ("put x b p", "p"), ("size x x", "x"), ("mirror a d", "d"), ("scale a p 1/2", "p"), ("raise a p 5", "p"), ("zoom a p .", "p"),
            ("far x a", "a"), ("far a p", "p"), ("value d 0", "d"), ("value p 7", "p"), ("value d 7", "d"), ("fair p m", "p"),
            ("area d", "d"), ("climb d", "d"), ("steepest p", "p"), ("greatest d", "d"), ("lowest d", "d"), ("states e", "e"),
            ("pieces d", "d"), ("alike a d", "d"), ("alike d a", "d"), ("alike p q", "p"), ("holds a 0", "a"), ("holds p 7", "p"),
            ("filled a", "a"), ("filled line", "line"),
        ):
            self.assertEqual(self.assert_wrong(desk, NoName, line).name, name, line)

    def test_what_the_functions_raise(self):
        for base in BASES:
            desk = self.full_desk(base)
            for line in ("value a 2", "value a -4/3", "holds d 2", "holds d -7/5", "dust x 1/2 1/3", "dust d -2 0", "dust d 0 3/2"):
                self.assert_wrong(desk, NoNumber, line)
            for line in ("line x 1/999999937 0", "line a 0 1/999999937", "scale b b 1/9973", "raise b b 1/99991"):
                self.assertEqual(self.assert_wrong(desk, TooMany, line).most, 400)
            self.assert_line(desk, "line wide 3 0")
            error = self.assert_wrong(desk, NotWithin, "put x a wide")
            self.assertGreater(abs(frac(error.x)), Fraction(1, 3))
            self.assert_line(desk, "put x wide a")
            desk.tell("undo")
            self.assert_line(desk, "dust many 1/7 1/7")
        desk = Desk(2)
        self.assert_lines(desk, ["dust many 1/947 1/947", "line x 1 0"])
        for line in ("far x many", "filled many"):
            self.assertEqual(self.assert_error(TooMany, desk.tell, line).most, 2000)
        self.assert_line(desk, "value x 1/2", "1/2")
        self.assert_line(desk, "holds many 1/947", "yes")
        self.assert_lines(desk, ["undo", "undo"])
        self.assert_error(NothingDone, desk.tell, "undo")

    def test_all_errors_are_of_the_program(self):
        desk = self.full_desk()
        rng = Random(5)
        words = ["line", "add", "put", "zoom", "dust", "far", "value", "fair", "alike", "holds", "undo", "a", "b", "d", "x", "1", "1/2"]
        words += ["-1/3", "0", ".", "1,-2", "ml", "", "states", "filled", "scale", "raise", "most", "2"]
        met = set()
        for _ in range(3000):
            line = " ".join([rng.choice(words) for _ in range(rng.randrange(1, 5))])
            try:
                desk.tell(line)
                met.add("told")
            except WritingError as error:
                met.add(type(error))
                self.assertIs(getattr(errors, type(error).__name__), type(error))
        self.assertLessEqual({"told", NoLine, NoName, NothingDone}, met)

    def test_equal_to_itself_alone(self):
        desk = Desk(2)
        self.assertTrue(desk == desk)
        for thing in [Desk(2), Desk(3), 2, None, absolute_machine(), cantor(2, 0), Reader(absolute_machine())] + odd_things():
            self.assertFalse(desk == thing)
            self.assertFalse(thing == desk)
            self.assertTrue(desk != thing)
        self.assertIn("tell", vars(Desk))


class Played:
    """A desk, and beside it what its lines must make: broken lines told by their corners, and stretches."""

    def __init__(self, case, base, rng):
        self.case = case
        self.base = base
        self.rng = rng
        self.desk = Desk(base)
        self.machines = {}
        self.dusts = {}
        self.done = []
        self.counts = {}

    def fraction(self, most):
        return Fraction(self.rng.randrange(-most, most + 1), self.rng.choice((1, 1, 2, self.base)))

    def number(self):
        bottom = self.rng.choice((1, 2, 3, self.base, self.base + 1))
        return Fraction(self.rng.randrange(-bottom, bottom + 1), bottom)

    def make(self, word):
        """A line that makes something: the line, and what it makes."""
        rng = self.rng
        name = rng.choice(("a", "b", "c", "d"))
        one, other = [rng.choice(sorted(self.machines)) for _ in range(2)] if self.machines else (None, None)
        if word == "line":
            slope, height = self.fraction(2), self.fraction(3)
            return "line {} {} {}".format(name, written(slope), written(height)), corners.line_of(slope, height)
        if word == "dust":
            low, high = sorted([self.number(), self.number()])
            return "dust {} {} {}".format(name, written(low), written(high)), (low, high)
        if word == "far":
            dust = rng.choice(sorted(self.dusts))
            return "far {} {}".format(name, dust), corners.far_of(*self.dusts[dust])
        if word in ("add", "most", "less", "put"):
            deeds = {
                "add": corners.added, "most": lambda y, z: corners.best(y, z, max), "less": lambda y, z: corners.best(y, z, min),
                "put": corners.put_in,
            }
            line = "{} {} {} {}".format(word, name, one, other)
            low, high = corners.heights(self.machines[other])
            if word == "put" and not -1 <= low <= high <= 1:
                return line, None
            return line, deeds[word](self.machines[one], self.machines[other])
        if word in ("scale", "raise"):
            by = self.fraction(2)
            f = (lambda y: y * by) if word == "scale" else (lambda y: y + by)
            return "{} {} {} {}".format(word, name, one, written(by)), corners.changed(self.machines[one], f)
        if word == "zoom":
            digits = [rng.randrange(1 - self.base, self.base) for _ in range(rng.randrange(2))]
            line = "zoom {} {} {}".format(name, one, ",".join([str(digit) for digit in digits]) or ".")
            return line, corners.zoomed(self.machines[one], self.base, digits)
        return "{} {} {}".format(word, name, one), (corners.amount if word == "size" else corners.mirrored)(self.machines[one])

    def play(self):
        words = ["line", "dust"]
        if self.machines:
            words += ["add", "most", "less", "put", "put", "scale", "raise", "zoom", "size", "mirror", "line"]
        if self.dusts:
            words.append("far")
        word = self.rng.choice(words)
        line, made = self.make(word)
        if isinstance(made, list) and corners.steepest(made) > 60:
            return
        shelf = self.dusts if word == "dust" else self.machines
        try:
            self.case.assert_line(self.desk, line)
        except TooMany as error:
            self.case.assertEqual(error.most, 400)
            return
        except NotWithin as error:
            self.case.assertIsNone(made)
            self.case.assertGreater(abs(corners.broken(self.machines[line.split(" ")[3]])(frac(error.x))), 1)
            return
        self.case.assertIsNotNone(made, line)
        self.counts[word] = self.counts.get(word, 0) + 1
        name = line.split(" ")[1]
        self.done.append((shelf, name, shelf.get(name)))
        shelf[name] = made
        self.ask(name)

    def undo(self):
        if not self.done:
            self.case.assert_error(NothingDone, self.desk.tell, "undo")
            return
        self.case.assert_line(self.desk, "undo")
        shelf, name, elder = self.done.pop()
        shelf[name] = elder
        if elder is None:
            shelf.pop(name)

    def ask(self, name):
        if name in self.dusts:
            low, high = self.dusts[name]
            self.case.assert_line(self.desk, "filled " + name, written(high - low))
            x = self.number()
            self.case.assert_line(self.desk, "holds {} {}".format(name, written(x)), "yes" if low <= x <= high else "no")
        if name in self.machines:
            points = self.machines[name]
            low, high = corners.heights(points)
            for word, told in (
                ("area", corners.area(points)), ("climb", corners.climb(points)), ("steepest", corners.steepest(points)),
                ("lowest", low), ("greatest", high), ("pieces", len(points) - 1),
            ):
                self.case.assert_line(self.desk, word + " " + name, written(told))
            x = self.number()
            self.case.assert_line(self.desk, "value {} {}".format(name, written(x)), written(corners.broken(points)(x)))
            for other in sorted(self.machines):
                same = "yes" if self.machines[other] == points else "no"
                self.case.assert_line(self.desk, "alike {} {}".format(name, other), same)


class Long(Desks):
    def test_long_desks(self):
        for base in BASES:
            counts = {}
            for seed in range(8):
                rng = Random(100 * base + seed)
                played = Played(self, base, rng)
                for _ in range(rng.randrange(20, 46)):
                    if rng.randrange(5) == 0:
                        for _ in range(rng.randrange(1, 4)):
                            played.undo()
                    else:
                        played.play()
                for name in sorted(set(played.machines) | set(played.dusts)):
                    played.ask(name)
                while played.done:
                    played.undo()
                played.undo()
                for word, many in played.counts.items():
                    counts[word] = counts.get(word, 0) + many
            self.assertEqual(len(counts), 12, counts)


if __name__ == "__main__":
    main()
