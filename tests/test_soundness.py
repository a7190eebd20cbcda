"""Gap tables, flaws and values: 2.3 to 2.5."""

from fractions import Fraction
from random import Random
from unittest import main

from anywriting.errors import NoNumber, Unsound
from anywriting.machines import Machine
from anywriting.soundness import is_flaw, is_gap_table, soundness, value
from checks import Case
from samples import (
    BASES, absolute_machine, changed, drawn_machine, drawn_number, drawn_writing, floor, frac, joined, made_by_sum,
    makes_by_sum, odd_things, pair, retold, some_writing, sound_machines, unsound_machine, worth_by_sum,
)


def closed(machine, table, keys):
    """The table, of which these keys are new, with all that it must have besides, or None where two heights meet."""
    base = machine.base
    digits = range(1 - base, base)
    table = dict(table)
    todo = list(keys)
    while todo:
        p, q, gap = todo.pop()
        for d in digits:
            for e in digits:
                after = base * gap + d - e
                if -2 <= after <= 2:
                    (a, r), (b, s) = machine.rows[p][d + base - 1], machine.rows[q][e + base - 1]
                    height = base * table[p, q, gap] + a - b
                    if (r, s, after) not in table:
                        table[r, s, after] = height
                        todo.append((r, s, after))
                    elif table[r, s, after] != height:
                        return None
    return table


def searched(machine):
    """The keys that a gap table must have, or None where two heights meet: by all pairs of digits."""
    table = {(s, s, 0): 0 for s in range(len(machine.rows))}
    return closed(machine, table, list(table))


def retold_machines(base, seed):
    """Pairs of a function and a machine that tells it, of as few or of more states than it needs."""
    rng = Random(100 * base + seed)
    return [(f, rng.choice((machine, retold(machine, rng)))) for f, machine in sound_machines(base)]


def maybe_unsound(base, seed):
    """Machines of which most are not sound."""
    rng = Random(200 * base + seed)
    found = [drawn_machine(base, rng.randrange(1, 7), rng, rng.randrange(3)) for _ in range(8)]
    found += [changed(machine, rng) for _, machine in retold_machines(base, seed)]
    found += [changed(machine, rng) for _, machine in sound_machines(base)]
    alone = drawn_machine(base, 1, rng)
    return found + [joined(machine, alone) for _, machine in sound_machines(base)[:3]]


class Soundness(Case):
    def test_sound_machines_of_all_shapes(self):
        for base in BASES:
            for _, machine in retold_machines(base, 1):
                word, table = soundness(machine)
                self.assertEqual(word, "sound")
                self.assertEqual(table, searched(machine))
                self.assert_flag(True, is_gap_table(machine, table))

    def test_against_a_direct_search_of_all_pairs_of_digits(self):
        words = []
        for base in BASES:
            for machine in maybe_unsound(base, 2):
                answer = soundness(machine)
                self.assertIs(type(answer), tuple)
                word, thing = answer
                words.append(word)
                table = searched(machine)
                self.assertEqual(word, "flaw" if table is None else "sound")
                if word == "sound":
                    self.assertEqual(thing, table)
                else:
                    self.assert_right_flaw(machine, thing)
        self.assertGreater(words.count("flaw"), 40)
        self.assertGreater(words.count("sound"), 2)

    def test_flaws_of_many_machines(self):
        rng = Random(1)
        for _ in range(3000):
            base = rng.choice(BASES)
            machine = rng.choice(sound_machines(base))[1]
            machine = changed(machine, rng) if rng.randrange(2) else drawn_machine(base, rng.randrange(1, 5), rng, 2)
            word, thing = soundness(machine)
            if word == "flaw":
                self.assert_right_flaw(machine, thing)

    def assert_right_flaw(self, machine, thing):
        state, one, other = thing
        for row in (one, other):
            self.assertTrue(all(-machine.base < d < machine.base for d in row[0] + row[1]))
            self.assertLessEqual(max(len(row[0]), len(row[1])), 10 ** 4)
        self.assertEqual(worth_by_sum(machine.base, one), worth_by_sum(machine.base, other))
        self.assertNotEqual(makes_by_sum(machine, state, one), makes_by_sum(machine, state, other))
        self.assert_flag(True, is_flaw(machine, thing))
        self.assert_flag(True, is_flaw(machine, (state, other, one)))

    def test_each_machine_has_either_a_table_or_a_flaw(self):
        for base in BASES:
            for machine in maybe_unsound(base, 3)[:12]:
                word, thing = soundness(machine)
                self.assert_flag(word == "sound", is_gap_table(machine, thing))
                self.assert_flag(word == "flaw", is_flaw(machine, thing))

    def test_a_state_alone_that_nothing_leads_to(self):
        machine = unsound_machine()
        word, flaw = soundness(machine)
        self.assertEqual((word, flaw[0]), ("flaw", 3))
        self.assert_right_flaw(machine, flaw)

    def test_a_machine_of_24_states_and_great_integers(self):
        rng = Random(5)
        for base in BASES:
            rows = tuple([tuple([(10 ** 12 - 1, rng.randrange(24))] * (2 * base - 1)) for _ in range(24)])
            self.assertEqual(soundness(Machine(base, 0, rows))[0], "sound")
            item, after = rows[23][0]
            other = rows[:23] + (((item - 1, after),) + rows[23][1:],)
            machine = Machine(base, 0, other)
            word, thing = soundness(machine)
            self.assertEqual(word, "flaw")
            self.assert_right_flaw(machine, thing)
            drawn = drawn_machine(base, 24, rng, 10 ** 12 - 1)
            self.assert_right_flaw(drawn, soundness(drawn)[1])

    def test_a_new_dict_each_time(self):
        machine = absolute_machine()
        one = soundness(machine)[1]
        keep = dict(one)
        one.clear()
        self.assertEqual(soundness(machine)[1], keep)


class Judging(Case):
    def test_gap_tables_with_more_keys_that_are_closed(self):
        grown = 0
        for base in BASES:
            for _, machine in retold_machines(base, 4):
                table = soundness(machine)[1]
                for state in range(min(8, len(machine.rows))):
                    for other in range(min(8, len(machine.rows))):
                        if (state, other, 0) not in table:
                            grown += self.check_further_key(machine, table, (state, other, 0))
        self.assertGreater(grown, 10)

    def check_further_key(self, machine, table, key):
        """A further key is let only with all that it leads to: so only for functions that are an integer apart."""
        middle = ((), (0,))
        height = makes_by_sum(machine, key[1], middle) - makes_by_sum(machine, key[0], middle)
        for rise in (0, 1):
            more = {**table, key: floor(height) + rise}
            told = closed(machine, more, [key])
            self.assert_flag(told == more, is_gap_table(machine, more))
            if told is not None:
                self.assertEqual((rise, height.denominator), (0, 1))
                self.assert_flag(True, is_gap_table(machine, told))
        return closed(machine, {**table, key: floor(height)}, [key]) is not None

    def test_gap_tables_with_one_thing_otherwise(self):
        for base in BASES:
            for _, machine in retold_machines(base, 5)[:9]:
                table = soundness(machine)[1]
                many = len(machine.rows)
                for key in list(table)[::3]:
                    for height in (table[key] + 1, table[key] - 1, None, True, False, "0", (0,)):
                        self.assert_flag(False, is_gap_table(machine, {**table, key: height}))
                    self.assert_flag(False, is_gap_table(machine, {k: h for k, h in table.items() if k != key}))
                beyond = [
                    (0, 0, 3), (0, 0, -3), (many, many, 0), (-1, -1, 0), (0, many, 0), (many, 0, 0), (0, -1, 0), 0,
                    (0, 0), (0, 0, 0, 0), None, "", (0, 0, None), (None, 0, 0), (0, "0", 0), (0, 0, (0,)), b"", len,
                ]
                for key in beyond:
                    self.assert_flag(False, is_gap_table(machine, {**table, key: 0}))
                self.assert_flag(False, is_gap_table(machine, list(table.items())))
                self.assert_flag(False, is_gap_table(machine, tuple(table)))
                self.assert_flag(False, is_gap_table(machine, {}))

    def test_a_table_without_the_keys_of_a_state_alone(self):
        # What nothing leads to has keys of its own.
        machine = joined(absolute_machine(), absolute_machine())
        table = soundness(machine)[1]
        part = {key: height for key, height in table.items() if key[0] < 3 and key[1] < 3}
        self.assertLess(len(part), len(table))
        self.assert_flag(False, is_gap_table(machine, part))
        self.assert_flag(True, is_gap_table(absolute_machine(), part))

    def test_a_table_of_a_state_with_itself_is_0(self):
        # Without the gaps beside it, a state with itself could have any height where nothing is told.
        machine = Machine(2, 0, (((0, 0), (0, 0), (0, 0)),))
        self.assert_flag(True, is_gap_table(machine, {(0, 0, gap): 0 for gap in range(-2, 3)}))
        for gap in range(-2, 3):
            table = {(0, 0, k): 1 if k == gap else 0 for k in range(-2, 3)}
            self.assert_flag(False, is_gap_table(machine, table))

    def test_tables_of_machines_that_are_not_sound(self):
        machine = unsound_machine()
        table = soundness(absolute_machine())[1]
        self.assert_flag(False, is_gap_table(machine, table))
        self.assert_flag(False, is_gap_table(machine, {**table, (3, 3, 0): 0}))

    def test_flaws_with_one_thing_otherwise(self):
        machine = unsound_machine()
        state, one, other = (3, ((1,), (-1,)), ((0,), (0,)))
        self.assert_flag(True, is_flaw(machine, (state, one, other)))
        wrong = [
            (0, one, other), (4, one, other), (-1, one, other), (True, one, other), (None, one, other),
            (state, one, one), (state, one, ((0,), (1,))), (state, one, ((), (0, 1))), (state, one),
            (state, one, other, other), [state, one, other], (state, list(one), other), (state, one, list(other)),
            (state, ((2,), (-2,)), other), (state, one, ((-1,), ())), (state, one, ((-1,), [1])),
            (state, one, ((-1,), (True,))), (one, other), (state, one, None), (state, "", other), (one, state, other),
        ]
        for thing in wrong + odd_things():
            self.assert_flag(False, is_flaw(machine, thing))
        for base in BASES:
            for _, sound in sound_machines(base)[:4]:
                high = base - 1
                self.assert_flag(False, is_flaw(sound, (0, ((1,), (-high,)), ((-1,), (high,)))))

    def test_flaws_are_of_writings_of_one_number_alone(self):
        rng = Random(6)
        for base in BASES:
            machine = drawn_machine(base, 4, rng)
            for _ in range(30):
                x = drawn_number(rng, 12)
                one, other = some_writing(base, x, rng), some_writing(base, x, rng)
                state = rng.randrange(4)
                apart = makes_by_sum(machine, state, one) != makes_by_sum(machine, state, other)
                self.assert_flag(apart, is_flaw(machine, (state, one, other)))
                self.assert_flag(False, is_flaw(machine, (state, one, drawn_writing(base, rng))))

    def test_things_of_other_kinds(self):
        for machine in (absolute_machine(), unsound_machine()):
            for thing in odd_things():
                self.assert_flag(False, is_flaw(machine, thing))
                self.assert_flag(False, is_gap_table(machine, thing))

    def test_nothing_handed_in_is_changed(self):
        machine = absolute_machine()
        table = soundness(machine)[1]
        for thing in (table, {**table, (0, 0, 9): 1}, {}, {(0, 0, 0): 0}):
            self.assert_unchanged(is_gap_table, machine, thing)
        self.assert_unchanged(is_flaw, machine, [0, [[1], [0]], [[0], [1]]])


class Value(Case):
    def test_what_the_machine_makes_of_each_writing(self):
        for base in BASES:
            rng = Random(base)
            for f, machine in retold_machines(base, 6):
                numbers = [Fraction(-1), Fraction(1), Fraction(0)] + [drawn_number(rng) for _ in range(4)]
                numbers.append(worth_by_sum(base, drawn_writing(base, rng, 25)))
                for x in numbers:
                    told = value(machine, pair(x))
                    self.assertEqual(told, pair(f(x)))
                    for _ in range(2):
                        self.assertEqual(told, pair(made_by_sum(machine, some_writing(base, x, rng))))

    def test_great_bottoms(self):
        for base in BASES:
            rng = Random(10 + base)
            for f, machine in retold_machines(base, 7)[::3]:
                digits = [rng.randrange(1 - base, base) for _ in range(48)]
                writing = (tuple(digits[:24]), tuple(digits[24:]))
                x = worth_by_sum(base, writing)
                self.assertEqual(frac(value(machine, pair(x))), made_by_sum(machine, writing))
                self.assertEqual(frac(value(machine, pair(x))), f(x))

    def test_errors(self):
        machine = absolute_machine()
        for thing in odd_things() + [(2, 1), (2, 4), [0, 1], (True, 1), (-1001, 1000)]:
            self.assert_first_error(value, (machine, (0, 1)), [(0, unsound_machine(), Unsound), (1, thing, NoNumber)])


if __name__ == "__main__":
    main()
