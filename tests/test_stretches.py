"""Dusts of all numbers from one to another, of few unlike pictures: 7.2."""

from fractions import Fraction
from random import Random
from unittest import main

from anywriting.dusts import Dust, between, bounds, holds
from anywriting.stretches import cuttings
from anywriting.webs import folded, web_within
from checks import Case
from dust_samples import pictures
from samples import BASES, drawn_number, frac, pair

# Ends whose unlike remainders come to nearly 400 together: by the plainest way to cut there are more than 2000.
NEARLY = [
    (2, (-713, 5460), (-37, 769)), (2, (-470, 751), (-251, 534)), (2, (-267, 851), (23, 28)), (2, (1, 6), (560, 851)),
    (2, (-258, 389), (-2, 11)), (2, (-740739, 2080768), (507, 955)), (2, (-27, 49), (198, 379)),
    (2, (129, 719), (1272431128705, 4398044413952)), (2, (-617, 761), (599257, 2097088)), (2, (836, 851), (1, 1)),
    (3, (-491285363051893, 694882570816980), (63, 799)), (3, (7, 24), (434, 995)), (3, (-239708, 531441), (-287, 778)),
    (3, (-220, 379), (5927907512, 15690529803)), (3, (-455, 758), (68449308097, 93755758338)), (3, (-50, 81), (18, 995)),
    (4, (-3702532712906617, 4503324749463552), (636, 751)), (4, (-498, 659), (-193, 899)), (4, (-29, 234), (437, 787)),
    (4, (-675, 757), (-2419623061018, 4398046511103)), (4, (-238, 797), (5, 8)), (4, (71, 179), (333, 619)),
    (5, (-523, 668), (-668, 929)), (5, (-154, 397), (-1, 3)), (5, (-427, 851), (406, 625)), (5, (-706, 951), (-58, 83)),
]


def mirror_of(x, y):
    return (-y[0], y[1]), (-x[0], x[1])


class FewPictures(Case):
    def assert_just(self, dust, x, y, rng):
        """The numbers in the dust are just those from x to y."""
        low, high = frac(x), frac(y)
        self.assertEqual(bounds(dust), (x, y))
        numbers = [low, high, low + (high - low) / 3, (low + high) / 2, Fraction(-1), Fraction(1), Fraction(0)]
        for many in (1, 4, 20):
            scale = dust.base ** many
            numbers += [Fraction(int(end * scale) + k, scale) for end in (low, high) for k in (-1, 0, 1)]
        for z in numbers + [drawn_number(rng, 40) for _ in range(3)]:
            if -1 <= z <= 1:
                self.assert_flag(low <= z <= high, holds(dust, pair(z)))

    def test_ends_of_nearly_400_remainders(self):
        for base, x, y in NEARLY:
            rng = Random(base)
            for low, high in ((x, y), mirror_of(x, y)):
                dust = between(base, low, high)
                self.assertLessEqual(pictures(dust, 2000), 2000, (base, low, high))
                self.assert_just(dust, low, high, rng)

    def test_ends_of_more_remainders(self):
        for base, x, y in ((3, (-5, 199), (113, 401)), (5, (98, 199), (99, 199))):
            self.assert_just(between(base, x, y), x, y, Random(base))

    def test_each_way_to_cut(self):
        one = Fraction(1)
        for base in BASES:
            rng = Random(base)
            stretches = [(-one, one), (-one, -one), (one, one), (0 * one, 0 * one), (-one, 0 * one), (0 * one, one)]
            stretches += [(-one / base, one / base), (one / 3, one / 3), (-one, one / 19 - 1), (one - one / 16, one)]
            for most in (2, 5, 12, 25):
                stretches.append(tuple(sorted((drawn_number(rng, most), drawn_number(rng, most)))))
            for low, high in stretches:
                x, y = pair(low), pair(high)
                for guide in cuttings(base):
                    web = web_within((x, y), guide, 1000)
                    self.assert_just(Dust(base, folded(web, (x, y))), x, y, rng)


if __name__ == "__main__":
    main()
