"""How much of the line a dust fills: 7.3, and how many pictures are let."""

from fractions import Fraction
from random import Random
from unittest import main

from anywriting.distances import apart, distance, outside
from anywriting.dusts import Dust, between, either, holds
from anywriting.errors import TooMany
from anywriting.fillings import filled, stretch
from checks import Case
from dust_samples import (
    barred_by_search, cantor, drawn_dust, drawn_intervals, joint, pictures, single, stretches_dust,
)
from samples import BASES, drawn_writing, frac, pair, worth_by_sum


def behind(dust, picture, digit):
    """The picture behind one digit more, as a frozenset."""
    found = set()
    for node, gap in picture:
        for own, after in dust.rows[node]:
            if abs(dust.base * gap + own - digit) <= 2:
                found.add((after, dust.base * gap + own - digit))
    return frozenset(found)


def shares_by_steps(dust, many):
    """Which part of all tuples of so many tiles leads to full pictures, and to pictures with pairs, as floats."""
    tiles = range(1 - dust.base, dust.base, 2)
    start = frozenset([(0, 0)])
    known = {start: None}
    todo = [start]
    for picture in todo:
        known[picture] = [behind(dust, picture, tile) for tile in tiles]
        for beyond in known[picture]:
            if beyond not in known:
                known[beyond] = None
                todo.append(beyond)
    bare = {picture for picture in known if not picture}
    while True:
        more = {picture for picture in known if picture not in bare and bare & set(known[picture])}
        if not more:
            break
        bare |= more
    weights = {start: 1.0}
    for _ in range(many):
        after = {}
        for picture, weight in weights.items():
            for beyond in known[picture]:
                if beyond:
                    after[beyond] = after.get(beyond, 0.0) + weight / dust.base
        weights = after
    return sum([weight for picture, weight in weights.items() if picture not in bare]), sum(weights.values())


def full(base):
    return cantor(base, *range(1 - base, base))


class Filled(Case):
    def test_stretches(self):
        for base in BASES:
            rng = Random(base)
            for _ in range(25):
                intervals = drawn_intervals(rng)
                length = sum([high - low for low, high in intervals])
                self.assertEqual(filled(stretches_dust(base, intervals)), pair(length), (base, intervals))
            late = Fraction(5, 7) + Fraction(1, base ** 20)
            self.assertEqual(filled(between(base, (5, 7), pair(late))), (1, base ** 20))

    def test_stretches_that_overlap_count_once(self):
        for base in BASES:
            one = between(base, (-1, 3), (1, 2))
            for low, high, length in ((0, 1, Fraction(4, 3)), (-1, 0, Fraction(3, 2)), (-1, 1, 2), (0, 0, Fraction(5, 6))):
                other = between(base, (low, 1), (high, 1))
                self.assertEqual(filled(either(one, other)), pair(length))
                self.assertEqual(filled(either(either(one, other), one)), pair(length))

    def test_drawn_dusts(self):
        near = []
        for base in BASES:
            rng = Random(base)
            for _ in range(80):
                dust = drawn_dust(base, rng.randrange(1, 4), rng, 2 * base)
                share = filled(dust)
                self.assertEqual(share, pair(frac(share)))
                part = float(frac(share) / 2)
                least, most = shares_by_steps(dust, 400)
                self.assertTrue(least - 1e-9 <= part <= most + 1e-9, (base, dust.rows, share))
                self.assertEqual(share == (0, 1), stretch(dust) is None)
                if most - least < 1e-6:
                    near.append(round(part, 3))
        self.assertGreater(len(near), 200)
        self.assertGreater(len(set(near)), 12)

    def test_numbers_of_many_writings_count_once(self):
        for base in BASES:
            self.assertEqual(filled(full(base)), (2, 1))
            self.assertEqual(filled(cantor(base, *range(1 - base, base, 2))), (2, 1))
            self.assertEqual(filled(cantor(base, *range(base))), (1, 1))
            self.assertEqual(filled(cantor(base, 0, base - 1)), (1, 1) if base == 2 else (0, 1))
            self.assertEqual(filled(either(full(base), cantor(base, 0))), (2, 1))

    def test_nodes_that_count_down(self):
        for base in BASES:
            for many in (1, 2, 7, 40):
                for digit in (1 - base, 0, base - 1):
                    every = tuple([(d, many) for d in range(1 - base, base)])
                    rows = tuple([((digit, k + 1),) for k in range(many)]) + (every,)
                    self.assertEqual(filled(Dust(base, rows)), pair(Fraction(2, base ** many)))
                    self.assertEqual(filled(Dust(base, rows[:-1] + (((0, many),),))), (0, 1))

    def test_nothing_and_all(self):
        for base in BASES:
            for dust in (cantor(base, 0), single(base, ((0, 1), (-1, 1, 0))), cantor(base, 1 - base, base - 1)):
                self.assertEqual(filled(dust), (2, 1) if base == 2 and len(dust.rows[0]) == 2 else (0, 1))
            self.assertEqual(filled(between(base, (-1, 1), (1, 1))), (2, 1))

    def test_ever_smaller_stretches(self):
        # The greatest digit and all behind it, and the same behind the least digit, over and over.
        for base in BASES:
            every = tuple([(d, 1) for d in range(1 - base, base)])
            self.assertEqual(filled(Dust(base, (((1 - base, 0), (base - 1, 1)), every))), pair(Fraction(2, base - 1)))


class Stretch(Case):
    def assert_stretch(self, dust, rng):
        digits = stretch(dust)
        self.assertEqual(stretch(dust), digits)
        self.assertEqual(digits is None, filled(dust) == (0, 1))
        if digits is None:
            return False
        self.assertIs(type(digits), tuple)
        self.assertTrue(all([type(d) is int and abs(d) < dust.base for d in digits]))
        for ahead, again in [((), (1 - dust.base,)), ((), (dust.base - 1,))] + [drawn_writing(dust.base, rng) for _ in range(8)]:
            x = worth_by_sum(dust.base, (digits + ahead, again))
            self.assertIsNone(barred_by_search(dust, x), (dust.base, dust.rows, digits, x))
            self.assert_flag(True, holds(dust, pair(x)))
        return True

    def test_drawn_dusts(self):
        for base in BASES:
            rng = Random(base)
            met = {self.assert_stretch(drawn_dust(base, rng.randrange(1, 5), rng, 2 * base), rng) for _ in range(90)}
            self.assertEqual(met, {True, False})

    def test_stretches(self):
        for base in BASES:
            rng = Random(base)
            for _ in range(15):
                intervals = drawn_intervals(rng)
                told = self.assert_stretch(stretches_dust(base, intervals), rng)
                self.assertEqual(told, any([low < high for low, high in intervals]))
            self.assertTrue(self.assert_stretch(full(base), rng))
            self.assertTrue(self.assert_stretch(between(base, (1, 3), pair(Fraction(1, 3) + Fraction(1, base ** 24))), rng))
            self.assertFalse(self.assert_stretch(cantor(base, 0), rng))

    def test_nothing_is_changed(self):
        for f in (filled, stretch, distance):
            dust = between(3, (-1, 3), (2, 7))
            self.assertEqual(self.assert_unchanged(f, dust), f(dust))
            self.assertEqual(dust, between(3, (-1, 3), (2, 7)))


def of_pictures(many):
    """Dusts of just so many unlike pictures, 2000 or a few more."""
    if many == 2000:
        return [
            single(2, ((0, 0), (1,) + (0,) * 398)), single(2, ((0,) * 5, (1,) + (0,) * 395)),
            either(single(3, ((), (1,) + (0,) * 389)), single(3, ((), (-1,) + (0,) * 8))),
        ]
    if many == 2001:
        return [
            between(3, (1, 401), (1, 401)), single(2, ((), (1,) + (0,) * 399)),
            either(single(2, ((), (1,) + (0,) * 391)), single(2, ((), (-1,) + (0,) * 6))),
        ]
    return [single(3, ((0,), (1,) + (0,) * 399)), single(2, ((), (1,) + (0,) * 450)), between(2, (1, 947), (1, 947))]


class ManyPictures(Case):
    def assert_too_many(self, most, f, *arguments):
        self.assertEqual(self.assert_error(TooMany, f, *arguments).most, most)

    def test_just_so_many_as_are_let(self):
        for dust in of_pictures(2000) + [between(4, (1, 797), (1, 797)), between(5, (1, 397), (1, 397))]:
            self.assertLessEqual(pictures(dust, 2001), 2000)
            self.assertEqual(filled(dust), (0, 1))
            self.assertIsNone(stretch(dust))
            # Of so many remainders the distance has more states than are let.
            self.assert_too_many(400, distance, dust)
            self.assertIsNone(outside(dust, dust))
            self.assertEqual(apart(dust, dust)[0], (0, 1))

    def test_more(self):
        self.assertEqual([pictures(dust, 2001) for dust in of_pictures(2000)], [2000] * 3)
        self.assertEqual([pictures(dust, 2001) for dust in of_pictures(2001)], [2001] * 3)
        for dust in of_pictures(2001) + of_pictures(2002):
            base = dust.base
            for f in (filled, stretch, distance):
                self.assert_too_many(2000, f, dust)
                beside = either(dust, between(base, (-1, 7), (-1, 7)))
                self.assertGreater(pictures(beside, 2001), 2000)
                self.assert_too_many(2000, f, beside)
            for f in (outside, apart):
                self.assert_too_many(2000, f, cantor(base, 0), dust)
                self.assert_too_many(2000, f, dust, dust)
            # What is outside of the other one is asked of the other one's pictures alone.
            self.assertIsNone(outside(dust, full(base)))
            self.assertFalse(holds(cantor(base, 0), outside(dust, cantor(base, 0))))
            self.assert_too_many(2000, apart, dust, cantor(base, 0))

    def test_much_that_is_full(self):
        # All of the line, of hundreds of nodes, has many pictures, but is nowhere far.
        for base, many in ((2, 60), (3, 390)):
            rows = [tuple([(d, (k + 1) % many) for d in range(1 - base, base)]) for k in range(many)]
            dust = Dust(base, tuple(rows))
            self.assertLessEqual(pictures(dust, 2001), 2000)
            self.assertEqual((filled(dust), stretch(dust)), ((2, 1), ()))
            self.assertEqual((len(distance(dust).rows), distance(dust).first), (1, 0))
        self.assertEqual(filled(joint([full(3), between(3, (1, 3), (1, 2))])), (2, 1))


if __name__ == "__main__":
    main()
