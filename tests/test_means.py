"""Areas and means: 6.2."""

from fractions import Fraction
from random import Random
from unittest import main

from anywriting.errors import NoChances, Unsound
from anywriting.greater import amount
from anywriting.least import lined, zoom
from anywriting.means import area, mean
from anywriting.sums import added, mirrored, raised, times
from checks import Case
from samples import (
    BASES, absolute_machine, broken, bumps, crowded, deep, drawn_broken, drawn_machine, dust_distance, frac, joined,
    learned, made_by_sum, odd_things, pair, retold, sound_machines, unsound_machine,
)


def area_below(points):
    """What lies below a broken line, by the trapeziums."""
    return sum([(b - a) * (low + high) / 2 for (a, low), (b, high) in zip(points, points[1:])])


def mean_by_equations(machine, chances):
    """The mean, by solving all equations of the states with Fractions."""
    many = len(machine.rows)
    rows = []
    for state, row in enumerate(machine.rows):
        line = [Fraction(0)] * (many + 1)
        line[state] += machine.base
        for chance, (told, after) in zip(chances, row):
            line[after] -= chance
            line[many] += chance * told
        rows.append(line)
    for k in range(many):
        rows[k] = [item / rows[k][k] for item in rows[k]]
        for other in range(many):
            if other != k:
                rows[other] = [a - rows[other][k] * b for a, b in zip(rows[other], rows[k])]
    return machine.first + rows[0][many]


def drawn_chances(base, rng):
    """Chances, some of them 0, as Fractions."""
    weights = [rng.choice((0, 0, 1, 2, rng.randrange(1, 9))) for _ in range(2 * base - 1)]
    weights[rng.randrange(2 * base - 1)] += 1
    return [Fraction(weight, sum(weights)) for weight in weights]


def told(chances):
    return tuple([pair(chance) for chance in chances])


class Area(Case):
    def test_broken_lines(self):
        for base in BASES:
            rng = Random(base)
            for _ in range(6):
                points, machine = drawn_broken(base, rng)
                self.assertEqual(area(machine), pair(area_below(points)))
                self.assertEqual(area(retold(machine, rng)), pair(area_below(points)))

    def test_lines(self):
        for base in BASES:
            for slope, height in (((1, 1), (0, 1)), ((-400, 1), (2, 3)), ((7, 30), (-1, 2)), ((0, 1), (10 ** 8, 1))):
                self.assertEqual(area(lined(base, slope, height)), pair(2 * frac(height)))
            self.assertEqual(area(amount(lined(base, (1, 1), (0, 1)))), (1, 1))

    def test_functions_bent_at_ever_nearer_places(self):
        for base in BASES:
            # One tooth, of breadth 1 - 1 / base and height base - 1, and all lesser ones.
            tooth = Fraction(base - 1, base) * (base - 1) / 2
            total = tooth / (1 - Fraction(1, base * base))
            machine = learned(base, bumps(base))
            self.assertEqual(area(machine), pair(total))
            self.assertEqual(area(learned(base, bumps(base, True))), pair(2 * total))
        # Of the dust of 3: between its two halves a tooth of breadth 2/3, and so on.
        self.assertEqual(area(learned(3, dust_distance(3, (-2, 2)))), pair(Fraction(1, 9) / (1 - Fraction(2, 9))))

    def test_areas_of_zooms(self):
        for base in BASES:
            rng = Random(base)
            for _, machine in sound_machines(base):
                parts = [frac(area(zoom(retold(machine, rng), [tile]))) for tile in range(1 - base, base, 2)]
                self.assertEqual(area(machine), pair(sum(parts) / base ** 2))

    def test_areas_of_what_is_put_together(self):
        for base in BASES:
            rng = Random(base)
            for _, machine in sound_machines(base):
                _, other = rng.choice(sound_machines(base))
                whole = frac(area(machine))
                self.assertEqual(area(added(machine, other)), pair(whole + frac(area(other))))
                self.assertEqual(area(times(machine, (-5, 2))), pair(whole * Fraction(-5, 2)))
                self.assertEqual(area(raised(machine, (7, 2))), pair(whole + 7))
                self.assertEqual(area(mirrored(machine)), pair(whole))
                self.assertEqual(area(retold(machine, rng)), pair(whole))

    def test_a_machine_of_many_states(self):
        for base in BASES:
            line = times(times(lined(base, (1, 1), (3, 1)), (1, 20)), (1, 20))
            self.assertEqual(area(line), (3, 200))
            corner = amount(lined(base, (1, 29), (0, 1)))
            self.assertEqual(area(corner), (1, 29))

    def test_unsound(self):
        self.assert_error(Unsound, area, unsound_machine())
        for base in BASES:
            alone = drawn_machine(base, 2, Random(base))
            self.assert_error(Unsound, area, alone)
            self.assert_error(Unsound, area, joined(lined(base, (1, 1), (0, 1)), alone))


class Mean(Case):
    def test_machines_sound_or_not(self):
        for base in BASES:
            rng = Random(base)
            for states in range(1, 6):
                for size in (1, 9, 10 ** 12 - 1):
                    machine = drawn_machine(base, states, rng, size)
                    for _ in range(4):
                        chances = drawn_chances(base, rng)
                        self.assertEqual(mean(machine, told(chances)), pair(mean_by_equations(machine, chances)))

    def test_functions(self):
        for base in BASES:
            rng = Random(base)
            for _, machine in sound_machines(base):
                chances = drawn_chances(base, rng)
                expected = pair(mean_by_equations(machine, chances))
                self.assertEqual(mean(machine, told(chances)), expected)
                self.assertEqual(mean(retold(machine, rng), told(chances)), expected)
                alone = drawn_machine(base, 2, rng)
                self.assertEqual(mean(joined(machine, alone), told(chances)), expected)

    def test_all_chance_on_one_digit(self):
        for base in BASES:
            rng = Random(base)
            machines = [drawn_machine(base, states, rng, 50) for states in range(1, 6)] + [sound_machines(base)[-1][1]]
            for machine in machines:
                for digit in range(1 - base, base):
                    chances = tuple([(int(place == digit), 1) for place in range(1 - base, base)])
                    self.assertEqual(mean(machine, chances), pair(made_by_sum(machine, ((), (digit,)))))

    def test_the_same_chance_for_all_digits(self):
        for base in BASES:
            chances = ((1, 2 * base - 1),) * (2 * base - 1)
            self.assertEqual(mean(lined(base, (7, 3), (2, 5)), chances), (2, 5))
            machine = drawn_machine(base, 4, Random(base), 30)
            same = [Fraction(1, 2 * base - 1)] * (2 * base - 1)
            self.assertEqual(mean(machine, chances), pair(mean_by_equations(machine, same)))

    def test_all_chance_on_the_tiles_is_half_the_area(self):
        for base in BASES:
            chances = tuple([(1, base) if digit % 2 == 0 else (0, 1) for digit in range(2 * base - 1)])
            for _, machine in sound_machines(base):
                self.assertEqual(mean(machine, chances), pair(frac(area(machine)) / 2))

    def test_great_bottoms(self):
        primes = [999999937, 999999929, 999999893]
        chances = [Fraction(1, primes[0]), Fraction(5, primes[1])]
        chances.append(1 - sum(chances))
        machine = drawn_machine(2, 5, Random(2), 10 ** 12 - 1)
        self.assertEqual(mean(machine, told(chances)), pair(mean_by_equations(machine, chances)))

    def test_a_machine_of_many_states(self):
        for base in BASES:
            line = times(times(lined(base, (1, 1), (3, 1)), (1, 20)), (1, 20))
            chances = drawn_chances(base, Random(base))
            drift = sum([chance * digit for chance, digit in zip(chances, range(1 - base, base))]) / (base - 1)
            self.assertEqual(mean(line, told(chances)), pair((drift + 3) / 400))


class Errors(Case):
    def wrong_chances(self):
        """What is wrong to the base 2."""
        wrong = [((1, 3), (1, 3), (1, 2)), ((1, 1), (1, 1), (1, 1)), ((0, 1),) * 3, ((-1, 3), (2, 3), (2, 3))]
        wrong += [((1, 2), (1, 2)), ((1, 2), (1, 2), (0, 1), (0, 1)), ((1, 1),), ()]
        wrong += [((1, 3), (1, 3), (333333334, 10 ** 9)), ((1, 3), (1, 3), (333333333, 10 ** 9))]
        wrong += [((2, 4), (1, 2), (0, 1)), ((1, 2), (1, 2), (0, 2)), ((-1, -2), (1, 2), (0, 1))]
        wrong += [((True, 1), (0, 1), (0, 1)), ((1, True), (0, 1), (0, 1)), ((1, 1), (False, 1), (0, 1))]
        wrong += [[(1, 1), (0, 1), (0, 1)], ([1, 1], (0, 1), (0, 1)), ((1, 1), [0, 1], (0, 1)), (1, 0, 0)]
        wrong += [((1, 1), None, (0, 1)), None, "1/1 0/1 0/1", ("1", "0", "0"), (("1", 1), (0, 1), (0, 1))]
        wrong += [((2, 1), (-1, 1), (0, 1)), ((1, 1), (0, 1), deep(0, 30)), ((1, 1), (0, 1), absolute_machine())]
        return wrong + [((1, 1), (-1, 10 ** 9), (1, 10 ** 9))]

    def test_no_chances(self):
        for machine in (absolute_machine(), unsound_machine(), drawn_machine(2, 3, Random(1))):
            mean(machine, ((1, 2), (0, 1), (1, 2)))
            for thing in odd_things() + self.wrong_chances():
                self.assert_error(NoChances, mean, machine, thing)
            self.assert_error(NoChances, mean, machine, ((1, 5),) * 5)

    def test_nothing_is_changed(self):
        for machine in (absolute_machine(), unsound_machine()):
            found = self.assert_unchanged(mean, machine, ((1, 2), (0, 1), (1, 2)))
            self.assertEqual(found, mean(machine, ((1, 2), (0, 1), (1, 2))))
            self.assert_unchanged(mean, machine, ((1, 2), (0, 1), (1, 3)))
            self.assert_unchanged(area, machine)


if __name__ == "__main__":
    main()
