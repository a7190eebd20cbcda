"""Machines, and what they tell and make: 2.1 and 2.2."""

from random import Random
from unittest import main

from anywriting.errors import BadMachine, NoDigits, NoState, NoWriting
from anywriting.machines import Machine, made, makes, read, told
from anywriting.writings import neat
from checks import Case
from samples import (
    BASES, absolute_machine, deep, drawn_machine, drawn_writing, made_by_sum, makes_by_sum, odd_things, pair,
    sound_machines,
)

ROW = ((1, 0), (0, 1), (-1, 0))


def machines(seed):
    """Drawn machines of one to eight states of all bases, sound ones among them."""
    rng = Random(seed)
    found = []
    for base in BASES:
        found += [drawn_machine(base, states, rng, 10 ** rng.randrange(1, 13)) for states in range(1, 9)]
        found += [machine for _, machine in sound_machines(base)[::4]]
    return found


def is_int(thing):
    return isinstance(thing, int) and not isinstance(thing, bool)


def are_digits(base, thing):
    return isinstance(thing, (list, tuple)) and all(is_int(d) and -base < d < base for d in thing)


class Parts(Case):
    def part(self, *arguments):
        return self.assert_error(BadMachine, Machine, *arguments).part

    def test_attributes_are_what_was_passed(self):
        for machine in machines(1):
            again = Machine(machine.base, machine.first, machine.rows)
            self.assertEqual(again.base, machine.base)
            self.assertEqual(again.first, machine.first)
            self.assertEqual(again.rows, machine.rows)
            self.assertIs(type(again.rows), tuple)

    def test_bad_base(self):
        for base in odd_things() + [1, 6, True, "2", None, (2,), -2]:
            self.assertEqual(self.part(base, 0, (ROW, ROW)), "base")
            self.assertEqual(self.part(base, None, None), "base")
        for base in BASES:
            self.assertEqual(Machine(base, 0, (((0, 0),) * (2 * base - 1),)).base, base)

    def test_bad_first(self):
        for first in odd_things():
            if not is_int(first):
                self.assertEqual(self.part(2, first, (ROW, ROW)), "first")
                self.assertEqual(self.part(2, first, ()), "first")
        for first in (0, -1, 10 ** 40):
            self.assertEqual(Machine(2, first, (ROW, ROW)).first, first)

    def test_bad_rows(self):
        for rows in ((), [], [ROW, ROW], None, "ab", {0: ROW}, 0, True, deep_row_list(), iter((ROW,)), b"a"):
            self.assertEqual(self.part(2, 0, rows), "rows")
        for rows in odd_things():
            part = "rows" if not isinstance(rows, tuple) or rows == () else 0
            self.assertEqual(self.part(2, 0, rows), part)

    def wrong_rows(self):
        found = [
            (), ROW[:2], ROW + ((0, 0),), list(ROW), None, "abc", 0, {0: 0}, ((0, 0), (0, 0), [0, 0]),
            ((0, 0), (0, 0), (0,)), ((0, 0), (0, 0), (0, 0, 0)), ((0, 0), (0, 0), ()), ((0, 0), None, (0, 0)),
            (0, 0, 0), ((True, 0), (0, 0), (0, 0)), ((0, 0), (0, True), (0, 0)), ((0, 0), (0, 0), (0, False)),
            ((0, 0), (0, 3), (0, 0)), ((0, 0), (0, -1), (0, 0)), ((0, 10 ** 30), (0, 0), (0, 0)),
            ((None, 0), (0, 0), (0, 0)), (("0", 0), (0, 0), (0, 0)), ((0, 0), (0, "0"), (0, 0)),
            ((0, 0), ((0,), 0), (0, 0)), ((0, 0), (0, (0,)), (0, 0)), (deep(0, 30), (0, 0), (0, 0)),
            ((deep((), 30), 0), (0, 0), (0, 0)), ((0, 0), (0, 0), (0, None)), ("00", "00", "00"),
        ]
        return found

    def test_the_first_state_whose_row_is_not_so(self):
        for wrong in self.wrong_rows() + odd_things():
            for rows in ((wrong, ROW, ROW), (ROW, wrong, ROW), (ROW, ROW, wrong), (ROW, wrong, wrong)):
                self.assertEqual(self.part(2, 0, rows), place(rows))

    def test_rows_of_the_wrong_length_for_the_base(self):
        for base in BASES:
            for many in range(0, 12):
                rows = (((0, 0),) * (2 * base - 1), ((0, 0),) * many)
                if many == 2 * base - 1:
                    self.assertEqual(len(Machine(base, 0, rows).rows), 2)
                else:
                    self.assertEqual(self.part(base, 0, rows), 1)

    def test_next_states_up_to_the_last_one(self):
        for many in (1, 2, 5):
            row = ((0, many - 1),) * 3
            self.assertEqual(Machine(2, 0, (row,) * many).rows, (row,) * many)
            beyond = ((0, 0), (0, many), (0, 0))
            self.assertEqual(self.part(2, 0, (row,) * (many - 1) + (beyond,)), many - 1)

    def test_the_parts_in_their_order(self):
        self.assertEqual(self.part(6, "0", []), "base")
        self.assertEqual(self.part(2, "0", []), "first")
        self.assertEqual(self.part(2, 0, []), "rows")
        self.assertEqual(self.part(2, 0, (ROW, (), ())), 1)

    def test_equal_to_machines_with_the_same_attributes_alone(self):
        for machine in machines(2):
            same = Machine(machine.base, machine.first, tuple(list(machine.rows)))
            self.assertTrue(machine == same)
            self.assertFalse(machine != same)
            self.assertFalse(machine == Machine(machine.base, machine.first + 1, machine.rows))
            item, after = machine.rows[-1][-1]
            rows = machine.rows[:-1] + (machine.rows[-1][:-1] + ((item + 1, after),),)
            self.assertFalse(machine == Machine(machine.base, machine.first, rows))
            self.assertFalse(machine == (machine.base, machine.first, machine.rows))
            self.assertFalse(machine == machine.rows)
        self.assertFalse(Machine(2, 0, (((0, 0),) * 3,)) == Machine(3, 0, (((0, 0),) * 5,)))
        for thing in odd_things()[:40]:
            self.assertFalse(Machine(2, 0, (((0, 0),) * 3,)) == thing)
            self.assertTrue(Machine(2, 0, (((0, 0),) * 3,)) != thing)


def place(rows):
    """Which of the rows is the first that is not ROW."""
    return [k for k, row in enumerate(rows) if row is not ROW][0]


def deep_row_list():
    return [[[[ROW]]]]


class Reading(Case):
    def test_read_digit_by_digit(self):
        rng = Random(3)
        for machine in machines(3):
            base = machine.base
            for _ in range(5):
                state = rng.randrange(len(machine.rows))
                digits = [rng.randrange(1 - base, base) for _ in range(rng.randrange(60))]
                at = state
                said = []
                for digit in digits:
                    item, at = machine.rows[at][digit + base - 1]
                    said.append(item)
                self.assertEqual(read(machine, state, digits), (tuple(said), at))
                self.assertEqual(read(machine, state, tuple(digits)), (tuple(said), at))

    def test_no_digits_at_all(self):
        for machine in machines(4):
            for state in range(len(machine.rows)):
                self.assertEqual(read(machine, state, []), ((), state))
                self.assertEqual(read(machine, state, ()), ((), state))

    def test_reading_in_two_parts_is_reading_at_once(self):
        rng = Random(5)
        for machine in machines(5):
            digits = [rng.randrange(1 - machine.base, machine.base) for _ in range(20)]
            for cut in (0, 1, 10, 20):
                one, at = read(machine, 0, digits[:cut])
                two, end = read(machine, at, digits[cut:])
                self.assertEqual(read(machine, 0, digits), (one + two, end))

    def test_told_is_neat_and_what_the_state_tells(self):
        rng = Random(6)
        for machine in machines(6):
            for _ in range(4):
                state = rng.randrange(len(machine.rows))
                ahead, again = drawn_writing(machine.base, rng)
                row = told(machine, state, (ahead, again))
                self.assertEqual(neat(row), row)
                many = len(ahead) + 4 * len(again) * len(machine.rows)
                digits = [*ahead, *again * (4 * len(machine.rows))]
                said = (row[0] + row[1] * many)[:many]
                self.assertEqual(said, read(machine, state, digits)[0])

    def test_makes_and_made(self):
        rng = Random(7)
        for machine in machines(7):
            for _ in range(6):
                state = rng.randrange(len(machine.rows))
                writing = drawn_writing(machine.base, rng, rng.choice((2, 8, 40)))
                self.assertEqual(makes(machine, state, writing), pair(makes_by_sum(machine, state, writing)))
                self.assertEqual(made(machine, writing), pair(made_by_sum(machine, writing)))

    def test_made_adds_first(self):
        one = Machine(2, 0, absolute_machine().rows)
        other = Machine(2, 7, absolute_machine().rows)
        self.assertEqual(made(one, ((), (1, -1))), (1, 3))
        self.assertEqual(made(other, ((), (1, -1))), (22, 3))
        self.assertEqual(makes(other, 0, ((), (1, -1))), (1, 3))

    def test_wrong_states_digits_and_writings(self):
        for machine in machines(8)[::5]:
            base = machine.base
            many = len(machine.rows)
            right_digits = (1, 0, -1)
            right_row = ((1,), (0,))
            states = [thing for thing in odd_things() if not is_int(thing)] + [-1, many, many + 1, 10 ** 20]
            for thing in states:
                self.assert_error(NoState, read, machine, thing, right_digits)
                self.assert_error(NoState, told, machine, thing, right_row)
                self.assert_error(NoState, makes, machine, thing, right_row)
            digits = [thing for thing in odd_things() if not are_digits(base, thing)]
            digits += [(base,), [-base], (0, True), [False], "01", {0: 1}, range(2), ((0,),), [[0]], (None,), 0]
            for thing in digits:
                self.assert_first_error(read, (machine, 0, right_digits), [(1, many, NoState), (2, thing, NoDigits)])
            rows = odd_things() + [((base,), (0,)), ((0,), (-base,)), ((), ()), [(), (0,)], ((0,), (True,)), ([], (0,))]
            for thing in rows:
                self.assert_error(NoWriting, made, machine, thing)
                for f in (told, makes):
                    self.assert_first_error(f, (machine, 0, right_row), [(1, -1, NoState), (2, thing, NoWriting)])

    def test_nothing_is_changed(self):
        machine = absolute_machine()
        for digits in ([0, 1, -1], [0, 2], [], [None]):
            self.assert_unchanged(read, machine, 0, digits)
            self.assert_unchanged(read, machine, 9, digits)
        self.assert_unchanged(told, machine, 0, ((1,), (0,)))
        self.assert_unchanged(makes, machine, 1, ((1,), [0]))
        self.assert_unchanged(made, machine, [[1], [0]])


if __name__ == "__main__":
    main()
