"""Deeds of 5 one behind the other, each one's machine passed on to the next."""

from fractions import Fraction
from random import Random
from unittest import main

from anywriting.errors import NotWithin, TooMany
from anywriting.greater import amount, greater, lesser
from anywriting.inner import put_in
from anywriting.least import is_least
from anywriting.straight import steepest
from anywriting.sums import added, mirrored, raised, times
from checks import Case
from samples import BASES, frac, made_by_sum, pair, retold, some_writing, sound_machines


def one_deed(rng, f, machine, g, other):
    """A drawn function of 5, asked with the machines, and the function that is to come of it."""
    height = Fraction(rng.randrange(-12, 13), rng.choice((1, 2, 3, 5)))
    deeds = [
        (added, (machine, other), lambda x: f(x) + g(x)),
        (times, (machine, pair(height)), lambda x: height * f(x)),
        (raised, (machine, pair(height)), lambda x: f(x) + height),
        (mirrored, (machine,), lambda x: f(-x)),
        (greater, (machine, other), lambda x: max(f(x), g(x))),
        (lesser, (machine, other), lambda x: min(f(x), g(x))),
        (amount, (machine,), lambda x: abs(f(x))),
        (put_in, (machine, other), lambda x: f(g(x))),
        (put_in, (other, machine), lambda x: g(f(x))),
    ]
    return rng.choice(deeds)


class Deeds(Case):
    def test_up_to_four_deeds(self):
        for base in BASES:
            rng = Random(base)
            many = {}
            for _ in range(25):
                f, machine = rng.choice(sound_machines(base))
                for _ in range(4):
                    g, other = rng.choice(sound_machines(base))
                    call, arguments, expected = one_deed(rng, f, machine, g, other)
                    try:
                        found = call(*arguments)
                    except (TooMany, NotWithin):
                        continue
                    if frac(steepest(found)) > 400:
                        break
                    f, machine = expected, found
                    many[call.__name__] = many.get(call.__name__, 0) + 1
                self.assert_held(f, machine, rng)
            self.assertEqual(len(many), 8, many)

    def assert_held(self, f, machine, rng):
        """The heights are right, at unlike writings of one number."""
        self.assert_flag(True, is_least(machine))
        for most in (7, 30, 90):
            x = Fraction(rng.randrange(-most, most + 1), most)
            writings = {some_writing(machine.base, x, rng) for _ in range(4)}
            self.assertEqual({made_by_sum(machine, writing) for writing in writings}, {f(x)})

    def test_alike_machines_tell_the_same(self):
        for base in BASES:
            rng = Random(base)
            for _ in range(25):
                f, machine = rng.choice(sound_machines(base))
                g, other = rng.choice(sound_machines(base))
                call, arguments, _ = one_deed(rng, f, machine, g, other)
                again = [retold(thing, rng) if thing in (machine, other) else thing for thing in arguments]
                try:
                    found = call(*arguments)
                except (TooMany, NotWithin) as error:
                    self.assert_error(type(error), call, *again)
                    continue
                self.assertEqual(call(*again), found)
                self.assert_flag(True, is_least(found))


if __name__ == "__main__":
    main()
