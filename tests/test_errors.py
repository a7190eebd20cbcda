"""The error classes: 0.3 and the interface."""

from unittest import main

from anywriting import errors
from checks import Case
from samples import odd_things

PLAIN = (
    "NoBase NoRow NoNumber NoMany NoState NoDigits NoWriting Unsound NoFraction OtherBase NoChances NoTurns NoHand "
    "NoChoices NoDigit NothingDone NoFit NoLine"
).split()
FIELDS = {
    "TooMany": "most", "BadMachine": "part", "NotWithin": "x", "BadDust": "part", "BadAnswer": "x",
    "BadText": "line", "NoName": "name",
}


class Errors(Case):
    def classes(self):
        return [getattr(errors, name) for name in PLAIN + list(FIELDS)]

    def test_there_are_25_classes_and_their_base(self):
        self.assertEqual(len(self.classes()), 25)
        told = [thing for thing in vars(errors).values() if isinstance(thing, type)]
        self.assertEqual(len(told), 26)
        self.assertEqual(errors.WritingError.__bases__, (ValueError,))

    def test_each_class_derives_directly_from_writing_error(self):
        for error in self.classes():
            self.assertEqual(error.__bases__, (errors.WritingError,), error)
            self.assertEqual(error.__module__, "anywriting.errors")

    def test_classes_without_a_field_are_made_with_nothing(self):
        for name in PLAIN:
            error = getattr(errors, name)()
            self.assertEqual(vars(error), {}, name)
            self.assert_kind(error, name)
            with self.assertRaises(TypeError):
                getattr(errors, name)(1)

    def test_classes_with_a_field_keep_just_what_they_are_made_with(self):
        for name, field in FIELDS.items():
            for thing in odd_things():
                error = getattr(errors, name)(thing)
                self.assertIs(getattr(error, field), thing)
                self.assertEqual(list(vars(error)), [field])
                self.assert_kind(error, name)
                self.assertIsInstance(str(error), str)
            with self.assertRaises(TypeError):
                getattr(errors, name)()
            with self.assertRaises(TypeError):
                getattr(errors, name)(1, 2)

    def assert_kind(self, error, name):
        """It is a WritingError and a ValueError, and of none of the other classes."""
        self.assertIsInstance(error, errors.WritingError)
        self.assertIsInstance(error, ValueError)
        self.assertEqual([kind.__name__ for kind in self.classes() if isinstance(error, kind)], [name])

    def test_each_class_is_raised_and_caught_by_its_name(self):
        for kind in self.classes():
            arguments = [] if kind.__name__ in PLAIN else [3]
            with self.assertRaises(kind):
                raise kind(*arguments)


if __name__ == "__main__":
    main()
