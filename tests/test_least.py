"""Lines, zooms, likeness and least machines: 2.5 and 3."""

from fractions import Fraction
from itertools import product
from random import Random
from unittest import main

from anywriting.errors import NoBase, NoDigits, NoFraction, OtherBase, TooMany, Unsound
from anywriting.least import (
    are_alike, is_alike_table, is_least, is_parting, least, left, likeness, lined, zoom,
)
from anywriting.machines import Machine
from anywriting.soundness import soundness, value
from checks import Case
from samples import (
    BASES, TooManyStates, absolute_machine, added, broken, changed, doubled, drawn_broken, drawn_number,
    drawn_writing, floor, frac, joined, learned, lifted, made_by_sum, odd_things, pair, retold, shuffled,
    sound_machines, straight, unsound_machine, ways_to_states,
)


def parts(machine):
    return (machine.base, machine.first, machine.rows)


def other_base_machine():
    return Machine(3, 0, (((0, 0),) * 5,))


def searched(one, other):
    """The keys that an alike table must have, or None where two heights meet."""
    table = {(0, 0): one.first - other.first}
    todo = [(0, 0)]
    while todo:
        p, q = todo.pop()
        for (a, r), (b, s) in zip(one.rows[p], other.rows[q]):
            height = one.base * table[p, q] + a - b
            if (r, s) not in table:
                table[r, s] = height
                todo.append((r, s))
            elif table[r, s] != height:
                return None
    return table


class Lined(Case):
    def test_lines_with_great_tops(self):
        for base in BASES:
            rng = Random(base)
            for _ in range(25):
                slope = Fraction(rng.randrange(1 - 10 ** 9, 10 ** 9), rng.randrange(1, 31))
                height = Fraction(rng.randrange(1 - 10 ** 9, 10 ** 9), rng.randrange(1, 31))
                known = self.states(base, slope, height)
                if known is None:
                    self.assert_error(TooMany, lined, base, pair(slope), pair(height))
                    continue
                machine = lined(base, pair(slope), pair(height))
                self.assertEqual(machine.base, base)
                self.assertEqual(len(machine.rows), known)
                self.assert_flag(True, is_least(machine))
                for x in (Fraction(-1), Fraction(1), Fraction(0), drawn_number(rng), drawn_number(rng)):
                    self.assertEqual(frac(value(machine, pair(x))), slope * x + height)

    def states(self, base, slope, height, most=400):
        """How many heights from 0 to below 1 the line has behind digits, or None if they are more than most."""
        heights = {height - floor(height)}
        todo = list(heights)
        while todo:
            low = todo.pop()
            for digit in range(1 - base, base):
                after = base * low + slope * digit
                after -= floor(after)
                if after not in heights:
                    heights.add(after)
                    todo.append(after)
        return len(heights) if len(heights) <= most else None

    def test_as_the_learned_ones(self):
        for base in BASES:
            for slope, height in ((0, 0), (1, 0), (Fraction(1, 3), Fraction(-7, 2)), (-5, Fraction(1, 4))):
                told = lined(base, pair(slope), pair(height))
                self.assertEqual(parts(told), parts(learned(base, straight(Fraction(slope), Fraction(height)))))

    def test_just_400_states_and_some_more(self):
        found = {}
        for base in BASES:
            for one in range(21, 31):
                for other in (17, 19, 23, 29):
                    many = self.states(base, Fraction(1, one), Fraction(1, other), 1000)
                    found.setdefault(many, (base, (1, one), (1, other)))
        self.assertIn(400, found)
        for many, (base, slope, height) in found.items():
            if many > 400:
                self.assertEqual(self.assert_error(TooMany, lined, base, slope, height).most, 400)
            elif many > 300:
                self.assertEqual(len(lined(base, slope, height).rows), many)
        # The same, and one more, beyond the bottoms that callers keep to.
        self.assertEqual(len(lined(3, (1, 400), (0, 1)).rows), 400)
        self.assert_error(TooMany, lined, 3, (1, 401), (0, 1))

    def test_errors(self):
        no_bases = (1, 6, True, "2", None, (2,))
        wrong = odd_things() + [(2, 4), (1, 0), (True, 1), [1, 2], (1, -1)]
        for k, thing in enumerate(wrong):
            faults = [(0, no_bases[k % 6], NoBase), (1, thing, NoFraction), (2, wrong[-k], NoFraction)]
            self.assert_first_error(lined, (2, (1, 1), (0, 1)), faults)
        self.assert_error(NoFraction, lined, 3, (1, 401), (2, 4))
        self.assertEqual(value(lined(2, (10, 1), (100, 1)), (1, 2)), (105, 1))


class Zoom(Case):
    def test_against_the_function(self):
        for base in BASES:
            rng = Random(10 + base)
            for f, machine in sound_machines(base):
                machine = rng.choice((machine, retold(machine, rng)))
                for many in (0, 1, 2, 5, 60):
                    digits = [rng.randrange(1 - base, base) for _ in range(many)]
                    told = zoom(machine, rng.choice((digits, tuple(digits))))
                    self.assert_flag(True, is_least(told))
                    centre = sum(Fraction(d, base ** (k + 1)) for k, d in enumerate(digits))
                    for x in (Fraction(0), Fraction(1), drawn_number(rng, 50)):
                        high = base ** many * f(centre + x / base ** many)
                        self.assertEqual(frac(value(told, pair(x))), high)

    def test_zooming_twice_is_zooming_by_all_digits(self):
        for base in BASES:
            rng = Random(20 + base)
            for _, machine in sound_machines(base):
                digits = [rng.randrange(1 - base, base) for _ in range(8)]
                for cut in (0, 3, 8):
                    twice = zoom(zoom(machine, digits[:cut]), digits[cut:])
                    self.assertEqual(parts(twice), parts(zoom(machine, digits)))
                self.assertEqual(parts(zoom(machine, [])), parts(machine))

    def test_first_is_zoomed_too(self):
        machine = lined(2, (0, 1), (5, 1))
        self.assertEqual(value(zoom(machine, (0, 0, 0)), (1, 3)), (40, 1))

    def test_errors(self):
        machine = absolute_machine()
        wrong = [thing for thing in odd_things() if not isinstance(thing, (tuple, list)) or len(thing) == 2]
        for thing in wrong[:30] + [(2,), [-2], (True,), "0", {0: 0}, range(1), (None,), ((0,),), [[0]]]:
            if thing not in ((1, 0), [0, 1]):
                self.assert_first_error(zoom, (machine, [1]), [(0, unsound_machine(), Unsound), (1, thing, NoDigits)])
        self.assert_unchanged(zoom, machine, [1, 0, -1])


class Likeness(Case):
    def pairs(self, seed):
        """Triples of two machines of one base and whether they are alike."""
        rng = Random(seed)
        for base in BASES:
            for f, machine in sound_machines(base):
                one, other = retold(machine, rng), retold(machine, rng)
                yield one, other, True
                yield one, machine, True
                yield machine, Machine(base, machine.first + 1, machine.rows), False
            for _ in range(4):
                points, machine = drawn_broken(base, rng)
                yield self.otherwise_on_a_short_stretch(base, points, machine)
            machines = [machine for _, machine in sound_machines(base)]
            for _ in range(8):
                one, other = rng.choice(machines), rng.choice(machines)
                yield retold(one, rng), retold(other, rng), parts(one) == parts(other)

    def test_functions_that_part_on_the_first_stretch_and_not_on_the_last(self):
        # The first and the last digit lead to one pair of states; only the first one parts.
        for base in BASES[1:]:
            end = 1 - Fraction(2, base)
            for low, high in ((2 * base, 0), (0, 2 * base)):
                points = [(Fraction(-1), Fraction(low)), (-end, Fraction(low)), (end, Fraction(high))]
                points.append((Fraction(1), Fraction(high)))
                one, other = lined(base, (0, 1), (0, 1)), learned(base, broken(points), 60)
                for some, more in ((one, other), (other, one)):
                    word, thing = likeness(some, more)
                    self.assertEqual(word, "parting")
                    self.assertNotEqual(made_by_sum(some, thing), made_by_sum(more, thing))

    def otherwise_on_a_short_stretch(self, base, points, machine):
        low = 1 - Fraction(2, base ** 4)
        bump = [(Fraction(-1), Fraction(0)), (low, Fraction(0)), (Fraction(1), Fraction(1, base ** 3))]
        return machine, added(machine, learned(base, broken(bump), 40)), False

    def test_all_pairs(self):
        for one, other, alike in self.pairs(1):
            word, thing = likeness(one, other)
            self.assert_flag(alike, are_alike(one, other))
            self.assertEqual(word, "alike" if alike else "parting")
            self.assert_flag(alike, is_alike_table(one, other, thing))
            self.assert_flag(not alike, is_parting(one, other, thing))
            if alike:
                self.assertEqual(thing, searched(one, other))
            else:
                self.assertNotEqual(made_by_sum(one, thing), made_by_sum(other, thing))
            self.assertEqual(alike, parts(least(one)) == parts(least(other)))

    def test_a_new_dict_each_time(self):
        one = absolute_machine()
        table = likeness(one, one)[1]
        keep = dict(table)
        table.clear()
        self.assertEqual(likeness(one, one)[1], keep)

    def test_partings(self):
        rng = Random(2)
        for one, other, _ in self.pairs(3):
            for _ in range(3):
                writing = drawn_writing(one.base, rng)
                apart = made_by_sum(one, writing) != made_by_sum(other, writing)
                self.assert_flag(apart, is_parting(one, other, writing))
        one, other = lined(2, (1, 1), (0, 1)), absolute_machine()
        self.assert_flag(True, is_parting(one, other, ((), (-1,))))
        self.assert_flag(False, is_parting(one, other, ((), (1,))))
        wrong = [[(), (-1,)], ((), [-1]), ([], (-1,)), ((), (-2,)), ((), ()), ((-1,),), ((), (-1,), ())]
        for thing in wrong + [((-2,), (0,)), ((True,), (-1,))] + odd_things():
            self.assert_flag(False, is_parting(one, other, thing))

    def test_alike_tables_with_one_thing_otherwise(self):
        rng = Random(4)
        for base in BASES:
            for _, machine in sound_machines(base)[::3]:
                one, other = retold(machine, rng), retold(machine, rng)
                table = likeness(one, other)[1]
                self.assert_flag(True, is_alike_table(one, other, dict(table)))
                for key in table:
                    for height in (table[key] + 1, True, False, None, "0", [table[key]]):
                        self.assert_flag(False, is_alike_table(one, other, {**table, key: height}))
                    less = {k: h for k, h in table.items() if k != key}
                    self.assert_flag(False, is_alike_table(one, other, less))
                many = len(other.rows)
                beyond = [(0, many), (len(one.rows), 0), (-1, 0), (0, -1), (0,), (0, 0, 0), 0, None, "00", (None, 0)]
                for key in beyond:
                    self.assert_flag(False, is_alike_table(one, other, {**table, key: 0}))
                self.assert_flag(False, is_alike_table(one, other, list(table.items())))

    def test_alike_tables_with_more_keys(self):
        one = joined(absolute_machine(), lined(2, (1, 1), (0, 1)))
        table = likeness(one, one)[1]
        self.assertNotIn((3, 3), table)
        self.assert_flag(True, is_alike_table(one, one, {**table, (3, 3): 0}))
        self.assert_flag(True, is_alike_table(one, one, {**table, (1, 3): 0, (3, 1): 0}))
        self.assert_flag(False, is_alike_table(one, one, {**table, (3, 3): 1}))
        self.assert_flag(False, is_alike_table(one, one, {**table, (2, 3): 0}))

    def test_flags_for_integers(self):
        # Nothing told and nothing apart: a flag would fit, were it an integer.
        machine = Machine(2, 1, (((0, 0),) * 3,))
        same = Machine(2, 1, (((0, 0),) * 3,))
        self.assert_flag(True, is_alike_table(machine, same, {(0, 0): 0}))
        self.assert_flag(False, is_alike_table(machine, same, {(0, 0): False}))
        wide = Machine(2, 2, (((-1, 0),) * 3,))
        self.assert_flag(False, is_alike_table(wide, machine, {(0, 0): True}))
        self.assert_flag(True, is_alike_table(wide, machine, {(0, 0): 1}))

    def test_a_table_begins_with_the_difference_of_first(self):
        one, other = Machine(2, 1, (((0, 0),) * 3,)), Machine(2, 0, (((0, 0),) * 3,))
        self.assert_flag(False, is_alike_table(one, other, {(0, 0): 0}))
        self.assert_flag(False, is_alike_table(one, other, {(0, 0): 1}))
        self.assert_flag(False, is_alike_table(one, other, {}))

    def test_errors_whatever_the_thing_is(self):
        right = absolute_machine()
        bad = unsound_machine()
        three = other_base_machine()
        bad_three = changed(Machine(3, 0, (((0, 0),) * 5,)), Random(1))
        self.assertEqual(soundness(bad_three)[0], "flaw")
        for thing in odd_things() + [{(0, 0): 0}, ((), (0,))]:
            for f in (is_parting, is_alike_table):
                self.check_errors(lambda one, other: f(one, other, thing), right, bad, three, bad_three)
        for f in (likeness, are_alike):
            self.check_errors(f, right, bad, three, bad_three)

    def check_errors(self, f, right, bad, three, bad_three):
        for one, other in ((right, three), (three, right), (bad, three), (right, bad_three), (bad_three, bad)):
            self.assert_error(OtherBase, f, one, other)
        for one, other in ((right, bad), (bad, right), (bad, bad)):
            self.assert_error(Unsound, f, one, other)

    def test_things_of_other_kinds(self):
        one = absolute_machine()
        for thing in odd_things():
            self.assert_flag(False, is_alike_table(one, one, thing))
            self.assert_flag(False, is_parting(one, one, thing))
        table = likeness(one, one)[1]
        for thing in (table, {**table, 0: 0}, {}):
            self.assert_unchanged(is_alike_table, one, one, thing)


class Least(Case):
    def test_one_machine_of_all_machines_of_a_function(self):
        for base in BASES:
            rng = Random(30 + base)
            for _, machine in sound_machines(base):
                for _ in range(3):
                    other = retold(machine, rng)
                    told = least(other)
                    self.assertEqual(parts(told), parts(machine))
                    self.assertEqual(left(other), len(machine.rows))
                    self.assert_flag(True, is_least(told))
                    self.assert_flag(parts(other) == parts(machine), is_least(other))

    def test_sums_of_machines(self):
        for base in BASES:
            rng = Random(40 + base)
            pool = [(f, machine) for f, machine in sound_machines(base) if len(machine.rows) <= 8]
            for _ in range(6):
                f, one = rng.choice(pool)
                g, other = rng.choice(pool)
                told = least(added(one, other))
                try:
                    known = learned(base, lambda x: f(x) + g(x), 70)
                except TooManyStates:
                    continue
                self.assertEqual(parts(told), parts(known))

    def test_is_least_of_a_machine_with_one_thing_otherwise(self):
        for base in BASES:
            rng = Random(50 + base)
            for _, machine in sound_machines(base):
                many = len(machine.rows)
                self.assert_flag(True, is_least(Machine(base, machine.first + 3, machine.rows)))
                self.assert_flag(False, is_least(joined(machine, machine)))
                self.assert_flag(False, is_least(joined(machine, lined(base, (1, 1), (0, 1)))))
                for state in range(many):
                    for lift in (1, -2):
                        lifts = [lift if k == state else 0 for k in range(many)]
                        self.assert_flag(False, is_least(lifted(machine, lifts)))
                other = doubled(machine, rng)
                self.assert_flag(False, is_least(other))
                turned = shuffled(machine, rng)
                self.assert_flag(parts(turned) == parts(machine), is_least(turned))

    def test_states_twice_that_are_come_to_in_their_order(self):
        # Two states of one function, both come to, all numbered as they should be.
        rows = (((-1, 1), (0, 0), (1, 1)), ((-1, 0), (0, 1), (1, 0)))
        self.assert_flag(False, is_least(Machine(2, 0, rows)))
        self.assertEqual(parts(least(Machine(2, 0, rows))), (2, 0, (((-1, 0), (0, 0), (1, 0)),)))

    def test_the_states_stand_in_the_order_in_which_they_are_come_to(self):
        machine = lined(2, (1, 3), (0, 1))
        order = (0, 2, 1)
        rows = [tuple([(told, order.index(after)) for told, after in machine.rows[state]]) for state in order]
        self.assert_flag(True, is_least(machine))
        self.assert_flag(False, is_least(Machine(2, 0, tuple(rows))))
        self.assertEqual(parts(least(Machine(2, 0, tuple(rows)))), parts(machine))

    def test_is_least_of_what_is_not_sound_and_of_other_things(self):
        self.assert_flag(False, is_least(unsound_machine()))
        rng = Random(6)
        for base in BASES:
            for _, machine in sound_machines(base):
                other = changed(machine, rng)
                if soundness(other)[0] == "flaw":
                    self.assert_flag(False, is_least(other))
        for thing in odd_things():
            if not isinstance(thing, Machine):
                self.assert_flag(False, is_least(thing))

    def test_heights_at_0_from_0_to_below_1(self):
        for base in BASES:
            for height in (Fraction(0), Fraction(1, 2), Fraction(-1, 2), Fraction(7), Fraction(-1, 3)):
                machine = lined(base, (1, 1), pair(height))
                self.assertEqual(machine.first, floor(height))
                self.assertEqual(least(Machine(base, 0, machine.rows)).first, 0)

    def test_so_many_functions_are_left_behind_first_digits(self):
        for base in BASES:
            rng = Random(60 + base)
            for _, machine in sound_machines(base):
                if len(machine.rows) > 6:
                    continue
                some = [digits for many in range(4) for digits in product((1 - base, 0, 1), repeat=many)]
                self.assertLessEqual(len({zoom(machine, digits).rows for digits in some}), left(machine))
                rows = {zoom(machine, digits).rows for digits in ways_to_states(machine).values()}
                self.assertEqual(len(rows), left(retold(machine, rng)))

    def test_unsound(self):
        for f in (least, left):
            self.assert_error(Unsound, f, unsound_machine())
        self.assert_error(Unsound, zoom, unsound_machine(), [])


if __name__ == "__main__":
    main()
