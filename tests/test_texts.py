"""Texts of rows, machines and dusts, and what is read of texts: 9."""

from random import Random
from unittest import main

from anywriting.dusts import Dust, between
from anywriting.errors import BadDust, BadMachine, BadText, NoRow
from anywriting.machines import Machine
from anywriting.reading import read_dust, read_machine, read_row
from anywriting.readers import Reader
from anywriting.texts import dust_text, machine_text, row_text
from checks import Case
from dust_samples import cantor, drawn_dust
from samples import BASES, absolute_machine, deep, drawn_machine, odd_things, sound_machines

C = cantor(3, -2, 2)
C_TEXT = "dust 3\n-2>0 2>0\n"
V_TEXT = "machine 2 0\n1>2 0>0 1>1\n-1>1 0>1 1>1\n1>2 0>2 -1>2\n"
GREATEST = 10 ** 4000 - 1


def drawn_integer(rng):
    size = 10 ** rng.choice((1, 1, 2, 9, 15, 40, 4000))
    return rng.randrange(-size + 1, size)


def drawn_row(rng):
    return (
        tuple([drawn_integer(rng) for _ in range(rng.randrange(4))]),
        tuple([drawn_integer(rng) for _ in range(rng.randrange(1, 4))]),
    )


def is_row(thing):
    if type(thing) is not tuple or [type(part) for part in thing] != [tuple, tuple] or thing[1] == ():
        return False
    return all([type(item) is int for part in thing for item in part])


class Texts(Case):
    def assert_bad(self, line, f, text):
        self.assertEqual(self.assert_error(BadText, f, text).line, line, repr(text)[:200])

    def assert_no_string(self, f):
        for thing in odd_things() + [b"0:0", ["0:0"], ("0:0",), 0, deep("0:0", 39), C, absolute_machine(), Reader(absolute_machine())]:
            if not isinstance(thing, str):
                self.assert_bad(0, f, thing)


class Rows(Texts):
    def test_what_is_read_is_the_row(self):
        rng = Random(1)
        texts = {}
        for _ in range(300):
            row = drawn_row(rng)
            text = row_text(row)
            self.assertIs(type(text), str)
            self.assertEqual(read_row(text), row)
            self.assertTrue(is_row(read_row(text)))
            self.assertEqual(texts.setdefault(text, row), row)
        for row in (((1,), (0, -1)), ((), (0,)), ((0, 0), (0,)), ((-5, 12), (3, -400))):
            self.assertEqual(read_row(row_text(row)), row)

    def test_the_text(self):
        self.assertEqual(row_text(((1,), (0, -1))), "1:0,-1")
        self.assertEqual(row_text(((), (0,))), ":0")
        self.assertEqual(row_text(((-10, 0, 7), (10 ** 20,))), "-10,0,7:" + "1" + "0" * 20)

    def test_no_row(self):
        for thing in odd_things() + [((), ()), ([], [0]), ((True,), (0,)), ((0,), (None,)), "0:0", C, ((0,), (0,), (0,))]:
            if not is_row(thing):
                self.assert_error(NoRow, row_text, thing)
        self.assert_unchanged(row_text, [[1], [0]])
        self.assert_unchanged(row_text, ((1,), (2,)))

    def test_long_integers(self):
        for item in (GREATEST, -GREATEST, 10 ** 3999, -10 ** 3999):
            row = ((item,), (0, item))
            self.assertEqual(read_row(row_text(row)), row)
        for word in ("1" + "0" * 4000, "9" * 4001, "-" + "9" * 4001, "1" * 8000):
            for text in (":" + word, word + ":0", "1," + word + ":0", "0:1," + word + ",2"):
                self.assert_bad(1, read_row, text)

    def test_no_such_text(self):
        wrong = [
            "", ":", "0:", "0", "0,0", "::0", "0::0", "0:0:0", ":0:", ",:0", "0,:0", ",0:0", "0,,0:0", ":0,", ":,0", ":0,,0",
            "00:0", ":00", ":01", ":-0", "-0:0", ":-01", ":+1", "+0:0", ":--1", ":-", "-:0", ":1-", " :0", ": 0", ":0 ", "0 :0",
            ":0\n", "\n:0", ":0,\n1", ":0.0", ":1e3", ":0x1", ":a", ":1_0", ":1/2", ":1>0", ":\t0", ";0", "0;0", ":0;", "(0):0",
            "1:0,-1 ", "1:0,-1,", "1:0,--1", "1:0,-", ":None", ":True", ":\u0661", ":\u00b2", "\uff11:0", ":0\r", ":0\x0b", ":0\0",
        ]
        for text in wrong:
            self.assert_bad(1, read_row, text)
        self.assert_no_string(read_row)

    def test_each_sign_more_less_or_another(self):
        for text in ("1:0,-1", "-12,0,7:10,-3", ":0"):
            for wrong in changes(text, "0123-,: +\n>a"):
                row = read_or_none(read_row, wrong)
                if row is not None:
                    self.assertEqual(row_text(row), wrong)
                else:
                    self.assert_bad(1, read_row, wrong)


def read_or_none(f, text):
    try:
        return f(text)
    except (BadText, BadMachine, BadDust):
        return None


def changes(text, signs):
    """The texts with one sign less, one twice, one more, or another one."""
    found = []
    for k in range(len(text) + 1):
        found += [text[:k] + sign + text[k:] for sign in signs]
        found += [text[:k] + text[k + 1:], text[:k] + text[k:k + 1] * 2 + text[k + 1:]]
        found += [text[:k] + sign + text[k + 1:] for sign in signs]
        found.append(text[:k] + text[k:k + 2][::-1] + text[k + 2:])
    return [changed for changed in found if changed != text]


def is_integer_word(word, most, lowest=True):
    """As 9.1 says, by another road: Python's own text of the integer must be the word."""
    if not word or len(word) > most + 1 or any([sign not in "-0123456789" for sign in word]) or "-" in word[1:] or word == "-":
        return False
    return str(int(word)) == word and len(word.strip("-")) <= most and (lowest or word[0] != "-")


def bad_line(text, head, heads):
    """The line that BadText must name, or None."""
    lines = text.split("\n")
    for number, line in enumerate(lines[:-1], 1):
        words = line.split(" ")
        if number == 1:
            right = words[:1] == [head] and len(words) == heads and is_integer_word(words[1], 9, False)
            right = right and (heads == 2 or is_integer_word(words[2], 4000))
        else:
            pairs = [word.split(">") for word in words]
            right = all([len(pair) == 2 and is_integer_word(pair[0], 4000) and is_integer_word(pair[1], 9, False) for pair in pairs])
        if not right:
            return number
    return len(lines) if lines[-1] or len(lines) == 1 else None


class Machines(Texts):
    def test_line_by_line(self):
        self.assertEqual(machine_text(absolute_machine()), V_TEXT)
        self.assertEqual(read_machine(V_TEXT), absolute_machine())
        for base in BASES:
            for states in (1, 2, 5):
                machine = drawn_machine(base, states, Random(base), 10 ** 12)
                lines = machine_text(machine).split("\n")
                self.assertEqual(lines[0], "machine {} {}".format(base, machine.first))
                for row, line in zip(machine.rows, lines[1:]):
                    self.assertEqual(line, " ".join(["{}>{}".format(told, after) for told, after in row]))
                self.assertEqual((len(lines), lines[-1]), (states + 2, ""))

    def test_what_is_read_is_equal(self):
        texts = {}
        for base in BASES:
            rng = Random(base)
            machines = [machine for _, machine in sound_machines(base)]
            machines += [drawn_machine(base, rng.randrange(1, 9), rng, size) for size in (3, 10 ** 12, GREATEST)]
            machines.append(Machine(base, -GREATEST, machines[0].rows))
            for machine in machines:
                text = self.assert_unchanged(machine_text, machine)
                found = read_machine(text)
                self.assertEqual(found, machine)
                self.assertTrue(all([type(k) is int for row in found.rows for pair in row for k in pair]))
                self.assertEqual(texts.setdefault(text, machine), machine)

    def test_changed_texts(self):
        self.assert_changed(read_machine, machine_text, V_TEXT, "machine", 3)

    def assert_changed(self, read, write, text, head, heads):
        met = set()
        for wrong in changes(text, "019-> \nm+"):
            number = bad_line(wrong, head, heads)
            thing = read_or_none(read, wrong)
            met.add((number, thing is None))
            if number is not None:
                self.assert_bad(number, read, wrong)
            elif thing is not None:
                self.assertEqual(write(thing), wrong)
            else:
                self.assert_error(BadMachine if heads == 3 else BadDust, read, wrong)
        self.assertLessEqual({(1, True), (2, True), (3, True), (None, True), (None, False)}, met)

    def test_wrong_lines(self):
        head = "machine 2 0\n"
        row = "1>0 0>0 1>0\n"
        read_machine(head + row)
        for wrong, line in (
            ("", 1), ("machine 2 0", 1), ("\n", 1), ("\n" + head + row, 1), ("machine 2\n", 1), ("machine 2 0 0\n" + row, 1),
            (C_TEXT, 1), ("Machine 2 0\n" + row, 1), ("machine  2 0\n" + row, 1), (" " + head + row, 1), ("machine 2 0 \n" + row, 1),
            ("machine -2 0\n" + row, 1), ("machine 02 0\n" + row, 1), ("machine 2 -0\n" + row, 1), ("machine 2 00\n" + row, 1),
            ("machine 2 +1\n" + row, 1), ("machine 1000000000 0\n" + row, 1), ("machine 2 " + "9" * 4001 + "\n" + row, 1),
            ("dust 2 0\n" + row, 1), ("machine 2 1>0\n" + row, 1), ("machine 2 0\r\n" + row, 1), (row + head, 1), (row, 1),
            (head + "\n", 2), (head + row + "\n", 3), (head + "\n" + row, 2), (head + row + " \n", 3), (head + " " + row, 2),
            (head + row + row[:-1], 4 - 1), (head + row + "x", 3), (head + row + " ", 3), (head + row[:-1], 2), (head + "x", 2),
            (head + row + head, 3), (head + "1>0  0>0 1>0\n", 2), (head + "1>0 0>0 1>0 \n", 2), (head + "1>0 0>0 1\n", 2),
            (head + "1>0 0>0 1>-0\n", 2), (head + "1>0 0>0 1>-1\n", 2), (head + "1>00 0>0 1>0\n", 2), (head + "01>0 0>0 1>0\n", 2),
            (head + "1>0>0 0>0 1>0\n", 2), (head + ">0 0>0 1>0\n", 2), (head + "1> 0>0 1>0\n", 2), (head + "1:0 0>0 1>0\n", 2),
            (head + row + "1>0 0>0 1>1000000000\n", 3), (head + row + "9" * 4001 + ">0 0>0 1>0\n", 3), (head + row + "-0>0 0>0 1>0\n", 3),
            ("machine 2 x\n" + row + "x\n" + "y", 1), (head + "x\n" + row + "y\n" + "z", 2), (head + row + "x\ny", 3),
            ("machine 1000000000 0\nx\n", 1), ("machine 9 0\nx\n", 2),
        ):
            self.assert_bad(line, read_machine, wrong)
            self.assertEqual(bad_line(wrong, "machine", 3), line)
        self.assert_no_string(read_machine)

    def test_right_form_but_no_right_machine(self):
        row = "1>0 0>0 1>0\n"
        for text, part in (
            ("machine 1 0\n" + row, "base"), ("machine 6 0\n", "base"), ("machine 0 5\n" + row, "base"), ("machine 2 0\n", "rows"),
            ("machine 999999999 0\n" + row, "base"), ("machine 2 0\n1>0 0>0\n", 0), ("machine 2 0\n1>0 0>0 1>1\n", 0),
            ("machine 2 0\n" + row + "1>0 0>0 1>2\n", 1), ("machine 2 0\n" + row + "1>0 0>0 1>999999999\n", 1),
            ("machine 3 0\n" + row, 0), ("machine 2 0\n" + row + row + "1>0 0>0 1>0 1>0\n" + "0>9\n", 2),
        ):
            self.assertEqual(self.assert_error(BadMachine, read_machine, text).part, part)
        self.assertEqual(read_machine("machine 2 -7\n" + row).first, -7)
        long = "machine 2 -" + "9" * 4000 + "\n" + "9" * 4000 + ">0 0>0 1>0\n"
        self.assertEqual((read_machine(long).first, read_machine(long).rows[0][0]), (-GREATEST, (GREATEST, 0)))


class Dusts(Machines):
    def test_line_by_line(self):
        self.assertEqual(dust_text(C), C_TEXT)
        self.assertEqual(read_dust(C_TEXT), C)
        dust = between(2, (-1, 3), (1, 2))
        lines = dust_text(dust).split("\n")
        self.assertEqual(lines[0], "dust 2")
        for row, line in zip(dust.rows, lines[1:]):
            self.assertEqual(line, " ".join(["{}>{}".format(digit, node) for digit, node in row]))
        self.assertEqual((len(lines), lines[-1]), (len(dust.rows) + 2, ""))

    def test_what_is_read_is_equal(self):
        texts = {}
        for base in BASES:
            rng = Random(base)
            for nodes in list(range(1, 13)) + [40]:
                dust = drawn_dust(base, nodes, rng, 5)
                text = self.assert_unchanged(dust_text, dust)
                self.assertEqual(read_dust(text), dust)
                self.assertEqual(texts.setdefault(text, dust), dust)

    def test_changed_texts(self):
        self.assert_changed(read_dust, dust_text, "dust 3\n-2>0 0>1 2>0\n1>0\n", "dust", 2)

    def test_wrong_lines(self):
        head, row = "dust 3\n", "-2>0 2>0\n"
        for wrong, line in (
            ("", 1), ("dust 3", 1), ("dust\n" + row, 1), ("dust 3 0\n" + row, 1), ("dust -3\n" + row, 1), ("dust 03\n" + row, 1),
            (V_TEXT, 1), ("dust  3\n" + row, 1), ("dust 3 \n" + row, 1), ("Dust 3\n" + row, 1), ("dust 1000000000\n" + row, 1),
            ("dust \n" + row, 1), ("machine 3\n" + row, 1), ("\n", 1), (row, 1), (head + "\n", 2), (head + row + "\n", 3),
            (head + row + row[:-1], 3), (head + row + "0", 3), (head + row[:-1], 2), (head + "-2>0  2>0\n", 2), (head + "-2>0 2\n", 2),
            (head + "-2>0 2>-1\n", 2), (head + row + "-0>0\n", 3), (head + row + "0>1000000000\n", 3), (head + "02>0\n", 2),
            (head + row + "1" * 4001 + ">0\n", 3), ("dust x\n" + "x\n" + "y", 1), (head + "x\ny\nz", 2), (head + head + row, 2),
        ):
            self.assert_bad(line, read_dust, wrong)
            self.assertEqual(bad_line(wrong, "dust", 2), line)
        self.assert_no_string(read_dust)

    def test_right_form_but_no_right_machine(self):
        for text, part in (
            ("dust 1\n0>0\n", "base"), ("dust 999999999\n", "base"), ("dust 3\n", "rows"), ("dust 3\n3>0\n", 0), ("dust 3\n0>1\n", 0),
            ("dust 3\n0>0\n1>0 0>0\n", 1), ("dust 3\n0>0\n0>0 0>0\n", 1), ("dust 3\n0>0\n" + "9" * 4000 + ">0\n", 1),
            ("dust 3\n0>999999999\n", 0), ("dust 2\n0>0\n1>0\n-2>0\n", 2),
        ):
            self.assertEqual(self.assert_error(BadDust, read_dust, text).part, part)
        self.assertEqual(read_dust("dust 3\n0>0 0>1\n1>0\n"), Dust(3, (((0, 0), (0, 1)), ((1, 0),))))


if __name__ == "__main__":
    main()
