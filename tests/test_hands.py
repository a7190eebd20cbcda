"""Two hands: 6.3."""

from fractions import Fraction
from itertools import product
from random import Random
from unittest import main

from anywriting.errors import NoChoices, NoHand, NoTurns
from anywriting.hands import best_choices, ensured, fair
from anywriting.least import lined
from anywriting.machines import Machine
from anywriting.most import greatest, lowest
from checks import Case
from samples import (
    BASES, absolute_machine, deep, drawn_machine, frac, joined, odd_things, pair, retold, sound_machines,
    unsound_machine, worth_by_sum,
)


def all_turns(most=4):
    return [turns for many in range(1, most + 1) for turns in product((True, False), repeat=many)]


def keys_of(machine, turns, much):
    """The pairs of state and place of the hand."""
    return [(state, place) for state in range(len(machine.rows)) for place in range(len(turns)) if turns[place] is much]


def drawn_choices(machine, turns, much, rng):
    return {key: rng.randrange(1 - machine.base, machine.base) for key in keys_of(machine, turns, much)}


def all_choices(machine, turns, much):
    keys = keys_of(machine, turns, much)
    for digits in product(range(1 - machine.base, machine.base), repeat=len(keys)):
        yield dict(zip(keys, digits))


def makes_by_choices(machine, turns, choices, state=0, place=0):
    """What a state makes from the place on, if both hands write by the choices."""
    seen = {}
    row = []
    at = (state, place)
    while at not in seen:
        seen[at] = len(row)
        item, after = machine.rows[at[0]][choices[at] + machine.base - 1]
        row.append(item)
        at = (after, (at[1] + 1) % len(turns))
    return worth_by_sum(machine.base, (row[:seen[at]], row[seen[at]:]))


def by_all_ways(machine, turns, much, choices):
    """What the hand makes sure of: the other one tries all choices."""
    made = [
        makes_by_choices(machine, turns, {**choices, **other}) for other in all_choices(machine, turns, not much)
    ]
    return machine.first + (min(made) if much else max(made))


def small_machines(base):
    rng = Random(base)
    most = {2: 3, 3: 2, 4: 2, 5: 1}[base]
    return [drawn_machine(base, states, rng, size) for states in range(1, most + 1) for size in (2, 10 ** 12 - 1)]


def late_chains(many, rest, other_rest):
    """Base 2: the first digit, if -1 or 1, leads to one of two chains that tell alike for so many digits."""
    rows = [((0, 1), (-5, 0), (0, 1 + many + 1))]
    for start, last in ((1, rest), (many + 2, other_rest)):
        for k in range(many):
            rows.append(((1, start + k + 1), (0, start + k + 1), (1, start + k + 1)))
        rows.append(tuple([(item, start + many) for item in last]))
    return Machine(2, 3, tuple(rows))


class Ensured(Case):
    def test_against_all_ways_of_the_other_hand(self):
        for base in BASES:
            rng = Random(base)
            for machine in small_machines(base):
                for turns in all_turns():
                    for much in (True, False):
                        if (2 * base - 1) ** len(keys_of(machine, turns, not much)) > 800:
                            continue
                        choices = drawn_choices(machine, turns, much, rng)
                        expected = by_all_ways(machine, turns, much, choices)
                        self.assertEqual(ensured(machine, turns, much, choices), pair(expected))

    def test_no_place_is_the_hands(self):
        for base in BASES:
            for machine in small_machines(base) + [sound_machines(base)[5][1]]:
                for many in range(1, 5):
                    self.assertEqual(ensured(machine, (True,) * many, False, {}), greatest(machine)[0])
                    self.assertEqual(ensured(machine, (False,) * many, True, {}), lowest(machine)[0])

    def test_lines(self):
        line = lined(2, (1, 1), (0, 1))
        high = {key: 1 for key in keys_of(line, (True, False), True)}
        # 1 and -1 by turns make 1/3.
        self.assertEqual(ensured(line, (True, False), True, high), (1, 3))
        nothing = {key: 0 for key in high}
        self.assertEqual(ensured(line, (True, False), True, nothing), (-1, 3))
        low = {key: -1 for key in keys_of(line, (True, False), False)}
        self.assertEqual(ensured(line, (True, False), False, low), (1, 3))
        self.assertEqual(ensured(line, (False, True, True), True, {(0, 1): 1, (0, 2): -1}), (-3, 7))


class Fair(Case):
    def assert_fair(self, machine, turns):
        """Both hands' choices make sure of one fraction from everywhere, and no changed choice makes surer."""
        high = best_choices(machine, turns, True)
        low = best_choices(machine, turns, False)
        self.assertEqual(sorted(high), keys_of(machine, turns, True))
        self.assertEqual(sorted(low), keys_of(machine, turns, False))
        both = {**high, **low}
        many = len(turns)
        made = {key: makes_by_choices(machine, turns, both, *key) for key in both}
        for (state, place), worth in made.items():
            behind = []
            for item, after in machine.rows[state]:
                behind.append((item + made[after, (place + 1) % many]) / machine.base)
            self.assertEqual(worth, max(behind) if turns[place] else min(behind))
        self.assertEqual(fair(machine, turns), pair(machine.first + made[0, 0]))
        self.assertEqual(ensured(machine, turns, True, high), fair(machine, turns))
        self.assertEqual(ensured(machine, turns, False, low), fair(machine, turns))

    def test_machines_of_all_kinds(self):
        for base in BASES:
            rng = Random(base)
            machines = small_machines(base) + [drawn_machine(base, states, rng, 9) for states in (4, 6, 8)]
            machines += [machine for _, machine in sound_machines(base)[::3]]
            machines += [retold(sound_machines(base)[6][1], rng)]
            for machine in machines:
                for turns in rng.sample(all_turns(), 6):
                    self.assert_fair(machine, turns)

    def test_against_all_choices_of_both_hands(self):
        for base, states in ((2, 1), (2, 2), (3, 1), (4, 1), (5, 1)):
            rng = Random(base)
            for _ in range(3):
                machine = drawn_machine(base, states, rng, 5)
                for turns in all_turns(2):
                    sure = [by_all_ways(machine, turns, True, choices) for choices in all_choices(machine, turns, True)]
                    other = [by_all_ways(machine, turns, False, choices) for choices in all_choices(machine, turns, False)]
                    self.assertEqual(max(sure), min(other))
                    self.assertEqual(fair(machine, turns), pair(max(sure)))

    def test_chains_that_tell_alike_for_ten_digits(self):
        for rest, other_rest in (((0, 0, 1), (0, 0, 2)), ((5, 1, 0), (3, 3, 3)), ((-1, 0, 1), (0, 0, 0))):
            for machine in (late_chains(10, rest, other_rest), late_chains(10, other_rest, rest)):
                for turns in all_turns(3):
                    self.assert_fair(machine, turns)
        machine = late_chains(10, (0, 0, 0), (0, 0, 1))
        choices = best_choices(machine, (True,), True)
        self.assertEqual(choices[0, 0], 1)
        self.assertEqual(best_choices(late_chains(10, (0, 0, 1), (0, 0, 0)), (True,), True)[0, 0], -1)

    def test_turns_gone_through_twice(self):
        for base in BASES:
            rng = Random(base)
            for machine in small_machines(base) + [drawn_machine(base, 6, rng, 10 ** 12 - 1)]:
                for turns in all_turns(2):
                    self.assertEqual(fair(machine, turns), fair(machine, turns + turns))
                    self.assert_fair(machine, turns + turns)
                self.assertEqual(fair(machine, (True, True, False, False)), fair(machine, (True, True, False, False)))

    def test_one_hand_alone(self):
        for base in BASES:
            for machine in small_machines(base) + [machine for _, machine in sound_machines(base)[::4]]:
                for many in range(1, 5):
                    self.assertEqual(fair(machine, (True,) * many), greatest(machine)[0])
                    self.assertEqual(fair(machine, (False,) * many), lowest(machine)[0])
                    self.assertEqual(best_choices(machine, (True,) * many, False), {})
                    self.assertEqual(best_choices(machine, (False,) * many, True), {})

    def test_states_that_nothing_leads_to(self):
        for base in BASES:
            rng = Random(base)
            one, other = drawn_machine(base, 2, rng), drawn_machine(base, 3, rng)
            both = joined(one, other)
            for turns in all_turns(3):
                self.assert_fair(both, turns)
                self.assertEqual(fair(both, turns), fair(one, turns))

    def test_known_ones(self):
        self.assertEqual(fair(lined(2, (1, 1), (0, 1)), (True, False)), (1, 3))
        self.assertEqual(fair(lined(2, (1, 1), (0, 1)), (False, True)), (-1, 3))
        self.assertEqual(fair(lined(3, (-1, 1), (5, 1)), (True, False, False)), pair(5 + Fraction(9 - 3 - 1, 13)))
        self.assertEqual(fair(absolute_machine(), (True,)), (1, 1))
        # Little writes 0 at first, much 1, and then little -1 and much 1 again and again.
        self.assertEqual(fair(absolute_machine(), (False, True)), (1, 6))

    def test_a_new_dict_each_time(self):
        v = absolute_machine()
        one = best_choices(v, (True, False), True)
        one[0, 0] = None
        one["a"] = 1
        self.assertEqual(best_choices(v, (True, False), True), best_choices(v, (True, False), True))
        self.assertEqual(len(best_choices(v, (True, False), True)), 3)
        self.assertIsNot(best_choices(v, (True,), False), best_choices(v, (True,), False))


class Errors(Case):
    def odd_turns(self):
        wrong = [(), (True,) * 5, (1,), (0,), (True, 1), [True], [True, False], "ml", {True: False}, True, None]
        return wrong + [((True,),), (True, None), (deep(True, 30),), (True, "m"), ((True, False), True), b"m"]

    def odd_hands(self):
        return [thing for thing in odd_things() if not isinstance(thing, bool)] + ["m", (True,), [False], 1, 0]

    def odd_choices(self, right):
        """What is wrong as choices of which the dict is right."""
        found = [right, list(right), tuple(right.items()), None, "choices", {}, 7]
        found = [thing for thing in found if thing != right]
        for key, digit in right.items():
            less = dict(right)
            del less[key]
            found += [less, {**less, (9, 0): digit}, {**less, key[0]: digit}, {**less, (key[0], key[1], 0): digit}]
            found += [{**less, (str(key[0]), key[1]): digit}, {**less, (key[0], None): digit}, {**less, None: digit}]
            found += [{**less, (key[0], 7): digit}, {**less, (key[0], -1): digit}, {**less, (-1, key[1]): digit}]
            for item in (2, -2, 10 ** 20, True, False, None, "0", (0,), [0], deep(0, 30)):
                found.append({**right, key: item})
        found += [{**right, (9, 0): 0}, {**right, "more": 0}]
        found += [{**right, (0, place): 0} for place in range(5) if (0, place) not in right]
        return [thing for thing in found if thing != right]

    def test_the_order(self):
        for machine in (absolute_machine(), unsound_machine()):
            turns = (True, False, True)
            right = drawn_choices(machine, turns, True, Random(1))
            self.assert_first_error(ensured, [machine, turns, True, right], [(1, (), NoTurns), (2, 1, NoHand), (3, {}, NoChoices)])
            self.assert_first_error(best_choices, [machine, turns, True], [(1, [True], NoTurns), (2, None, NoHand)])
            self.assert_first_error(fair, [machine, turns], [(1, (True,) * 5, NoTurns)])

    def test_turns(self):
        v = absolute_machine()
        for thing in self.odd_turns() + odd_things():
            self.assert_error(NoTurns, fair, v, thing)
            self.assert_error(NoTurns, best_choices, v, thing, True)
            self.assert_error(NoTurns, best_choices, v, thing, None)
            self.assert_error(NoTurns, ensured, v, thing, True, {})
            self.assert_error(NoTurns, ensured, v, thing, 1, None)

    def test_hands(self):
        v = absolute_machine()
        for thing in self.odd_hands():
            self.assert_error(NoHand, best_choices, v, (True,), thing)
            self.assert_error(NoHand, ensured, v, (True,), thing, {})
            self.assert_error(NoHand, ensured, v, (True,), thing, [])

    def test_choices(self):
        for machine in (absolute_machine(), unsound_machine()):
            for turns in ((True,), (True, False), (False, True, True, False)):
                for much in (True, False):
                    right = drawn_choices(machine, turns, much, Random(3))
                    ensured(machine, turns, much, right)
                    for thing in self.odd_choices(right) + odd_things():
                        if thing != right:
                            self.assert_error(NoChoices, ensured, machine, turns, much, thing)

    def test_choices_of_the_other_hand(self):
        v = absolute_machine()
        turns = (True, False)
        for much in (True, False):
            own = drawn_choices(v, turns, much, Random(1))
            other = drawn_choices(v, turns, not much, Random(1))
            ensured(v, turns, much, own)
            self.assert_error(NoChoices, ensured, v, turns, much, other)
            self.assert_error(NoChoices, ensured, v, turns, much, {**own, **other})
        self.assert_error(NoChoices, ensured, v, (True,), False, {(0, 0): 1, (1, 0): 1, (2, 0): 1})
        self.assert_error(NoChoices, ensured, v, (True,), True, {})

    def test_nothing_is_changed(self):
        v = absolute_machine()
        turns = (True, False)
        right = drawn_choices(v, turns, True, Random(1))
        found = self.assert_unchanged(ensured, v, turns, True, right)
        self.assertEqual(found, ensured(v, turns, True, right))
        self.assert_unchanged(ensured, v, turns, False, right)
        self.assert_unchanged(best_choices, v, turns, True)
        self.assert_unchanged(fair, v, turns)
        self.assert_unchanged(fair, v, [True])
        self.assertEqual(frac(fair(v, turns)), frac(fair(v, turns)))


if __name__ == "__main__":
    main()
