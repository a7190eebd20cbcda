"""What kind of thing an object is."""


def is_integer(thing):
    return isinstance(thing, int) and not isinstance(thing, bool)


def is_integer_within(thing, low, high):
    return is_integer(thing) and low <= thing <= high


def is_base(thing):
    return is_integer_within(thing, 2, 5)


def is_digit(base, thing):
    return is_integer_within(thing, 1 - base, base - 1)


def is_tuple_of(thing, many):
    return isinstance(thing, tuple) and len(thing) == many


def are_integers(thing):
    """Whether the thing is a tuple of integers."""
    return isinstance(thing, tuple) and all([is_integer(item) for item in thing])


def are_digits(base, thing):
    """Whether the thing is a list or tuple of digits of the base."""
    return isinstance(thing, (list, tuple)) and all([is_digit(base, item) for item in thing])
