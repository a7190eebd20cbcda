"""The document's examples, and that its interface stands where it says."""

import inspect
from importlib import import_module
from unittest import main

from anywriting.desks import Desk
from anywriting.distances import distance
from anywriting.dusts import Dust, barred_at, bounds, holds
from anywriting.fillings import filled
from anywriting.greater import amount
from anywriting.hands import fair
from anywriting.least import least, left, lined
from anywriting.machines import Machine
from anywriting.means import area
from anywriting.most import greatest
from anywriting.readers import Reader
from anywriting.shapes import climb, line_between, pieces
from anywriting.soundness import soundness, value
from anywriting.straight import road, rough, slopes, steepest
from anywriting.texts import dust_text, row_text
from anywriting.writings import beginnings, greatly, many_beginnings, worth, written
from checks import Case

V = Machine(2, 0, (((1, 2), (0, 0), (1, 1)), ((-1, 1), (0, 1), (1, 1)), ((1, 2), (0, 2), (-1, 2))))
H = lined(2, (1, 1), (0, 1))
C = Dust(3, (((-2, 0), (2, 0)),))

INTERFACE = {
    "writings": {
        "is_fraction": 1, "is_writing": 2, "worth": 2, "neat": 1, "written": 2, "greatly": 2, "beginnings": 3,
        "many_beginnings": 3,
    },
    "machines": {"Machine": 3, "read": 3, "told": 3, "makes": 3, "made": 2},
    "soundness": {"is_flaw": 2, "is_gap_table": 2, "soundness": 1, "value": 2},
    "least": {
        "lined": 3, "zoom": 2, "least": 1, "is_parting": 3, "is_alike_table": 3, "are_alike": 2, "is_least": 1,
        "likeness": 2, "left": 1,
    },
    "straight": {"line": 2, "road": 2, "slopes": 1, "steepest": 1, "rough": 2},
    "shapes": {
        "fall": 1, "dent": 1, "crowd": 1, "pieces": 1, "is_fall": 2, "is_dent": 2, "is_crowd": 2, "line_between": 3,
        "climb": 1,
    },
    "sums": {"added": 2, "times": 2, "raised": 2, "mirrored": 1},
    "greater": {"greater": 2, "lesser": 2, "amount": 1},
    "inner": {"put_in": 2},
    "most": {"greatest": 1, "lowest": 1, "is_prices": 2, "prices": 1},
    "means": {"area": 1, "mean": 2},
    "hands": {"ensured": 4, "best_choices": 3, "fair": 2},
    "dusts": {
        "Dust": 2, "holds": 2, "way_in": 2, "barred_at": 2, "bounds": 1, "between": 3, "either": 2, "common": 2,
    },
    "fillings": {"filled": 1, "stretch": 1},
    "distances": {"distance": 1, "outside": 2, "apart": 2},
    "images": {"noughts": 1, "image": 2, "behind": 2, "standing": 1},
    "readers": {"Reader": 1},
    "strangers": {"known": 3},
    "texts": {"row_text": 1, "machine_text": 1, "dust_text": 1},
    "reading": {"read_row": 1, "read_machine": 1, "read_dust": 1},
    "desks": {"Desk": 1},
}

METHODS = (
    (Reader, {"tell": 1, "digits": 0, "state": 0, "stretch": 0, "back": 0, "copy": 0}),
    (Desk, {"tell": 1}),
)


class Examples(Case):
    def test_e01(self):
        self.assertEqual(written(2, (0, 1)), ((-1,), (1,)))
        self.assertEqual(greatly(2, (0, 1)), ((1,), (-1,)))
        self.assertEqual(worth(2, ((1,), (0, 1))), (2, 3))

    def test_e02(self):
        self.assertEqual(beginnings(2, (1, 2), 1), [(0,), (1,)])
        self.assertEqual(many_beginnings(2, (1, 2), 2), 4)

    def test_e03(self):
        table = {(0, 0, 0): 0, (0, 0, -1): -1, (0, 0, -2): -2, (0, 0, 1): 1, (0, 0, 2): 2}
        self.assertEqual(soundness(H), ("sound", table))
        self.assertEqual(value(V, (-1, 3)), (1, 3))

    def test_e04(self):
        self.assertEqual(least(V) == amount(H), True)
        self.assertEqual(left(V), 3)
        rows = (((-1, 1), (0, 0), (0, 2)), ((1, 0), (1, 2), (1, 1)), ((0, 2), (0, 1), (1, 0)))
        self.assertEqual(lined(2, (1, 3), (0, 1)).rows, rows)
        # Numbered as they are come to first, the state of the slope -1 is the first one behind 0.
        rows = (((1, 1), (0, 0), (1, 2)), ((1, 1), (0, 1), (-1, 1)), ((-1, 2), (0, 2), (1, 2)))
        self.assertEqual(least(V), Machine(2, 0, rows))

    def test_e05(self):
        self.assertEqual((road(V, 0), slopes(V), steepest(V)), ((-1,), ((-1, 1), (1, 1)), (1, 1)))
        self.assertEqual([rough(V, 0), rough(V, 1)], [1, 0])

    def test_e06(self):
        self.assertEqual(pieces(V), (((0, 1), (-1, 1), (0, 1)), ((1, 1), (1, 1), (0, 1))))
        self.assertEqual(climb(V), (2, 1))
        self.assertEqual(line_between(V, (0, 1), (1, 2)), ((1, 1), (0, 1)))

    def test_e07(self):
        self.assertEqual(greatest(V)[0], (1, 1))
        self.assertEqual(area(V), (1, 1))
        self.assertEqual(fair(H, (True, False)), (1, 3))

    def test_e08(self):
        self.assertEqual([holds(C, (1, 2)), holds(C, (0, 1))], [True, False])
        self.assertEqual(barred_at(C, (0, 1)), 1)
        self.assertEqual(bounds(C), ((-1, 1), (1, 1)))
        self.assertEqual(filled(C), (0, 1))

    def test_e09(self):
        d = distance(C)
        self.assertEqual(value(d, (0, 1)), (1, 3))
        self.assertEqual(slopes(d), ((-1, 1), (1, 1)))
        self.assertEqual((climb(d), pieces(d)), ((2, 1), None))

    def test_e10(self):
        self.assertEqual(row_text(((1,), (0, -1))), "1:0,-1")
        self.assertEqual(dust_text(C), "dust 3\n-2>0 2>0\n")


class Interface(Case):
    def test_each_name_is_defined_in_its_file_with_its_arguments(self):
        for file, names in INTERFACE.items():
            module = import_module("anywriting." + file)
            for name, many in names.items():
                thing = getattr(module, name)
                self.assertEqual(thing.__module__, module.__name__, name)
                self.assertEqual(len(inspect.signature(thing).parameters), many, name)

    def test_a_machine_has_its_own_equality_and_attributes(self):
        self.assertIn("__eq__", vars(Machine))
        self.assertEqual((V.base, V.first, len(V.rows)), (2, 0, 3))

    def test_a_dust_has_its_own_equality_and_attributes(self):
        self.assertIn("__eq__", vars(Dust))
        self.assertEqual((C.base, C.rows), (3, (((-2, 0), (2, 0)),)))
        self.assertEqual(C, Dust(3, (((-2, 0), (2, 0)),)))

    def test_each_method_is_defined_in_its_class(self):
        for kind, names in METHODS:
            for name, many in names.items():
                self.assertEqual(len(inspect.signature(vars(kind)[name]).parameters), many + 1, name)


if __name__ == "__main__":
    main()
