"""Rows, machines and dusts read from texts (9.1 and 9.2)."""

from anywriting.dusts import Dust
from anywriting.errors import BadText
from anywriting.machines import Machine

MOST_DIGITS = 4000
MOST_DIGITS_OF_NUMBERS = 9
FIGURES = "0123456789"


def number_in(word, most):
    """The number of things of at most so many digits that the word writes, or None."""
    if not 1 <= len(word) <= most or not all([sign in FIGURES for sign in word]):
        return None
    return None if word[0] == "0" and len(word) > 1 else int(word)


def integer_in(word, most):
    """The integer of at most so many digits that the word writes, or None."""
    if not word.startswith("-"):
        return number_in(word, most)
    amount = number_in(word[1:], most)
    return None if amount is None or amount == 0 else -amount


def integers_in(text):
    """The tuple of the integers that the text writes, or None."""
    if text == "":
        return ()
    integers = [integer_in(word, MOST_DIGITS) for word in text.split(",")]
    return None if any([item is None for item in integers]) else tuple(integers)


def pair_in(word):
    """The pair (integer, number of things) that the word writes, or None."""
    parts = word.split(">")
    if len(parts) != 2:
        return None
    item = integer_in(parts[0], MOST_DIGITS)
    after = number_in(parts[1], MOST_DIGITS_OF_NUMBERS)
    return None if item is None or after is None else (item, after)


def pairs_in(line):
    """The tuple of the pairs that the line writes, or None."""
    pairs = [pair_in(word) for word in line.split(" ")]
    return None if any([pair is None for pair in pairs]) else tuple(pairs)


def check_text(text):
    if not isinstance(text, str):
        raise BadText(0)


def read_row(text):
    check_text(text)
    parts = text.split(":")
    if len(parts) != 2:
        raise BadText(1)
    ahead = integers_in(parts[0])
    again = integers_in(parts[1])
    if ahead is None or again is None or len(again) == 0:
        raise BadText(1)
    return (ahead, again)


def machine_head(line):
    """The pair (base, first) that the first line of a machine writes, or None."""
    words = line.split(" ")
    if len(words) != 3 or words[0] != "machine":
        return None
    base = number_in(words[1], MOST_DIGITS_OF_NUMBERS)
    first = integer_in(words[2], MOST_DIGITS)
    return None if base is None or first is None else (base, first)


def dust_head(line):
    """The tuple of the base alone that the first line of a dust writes, or None."""
    words = line.split(" ")
    if len(words) != 2 or words[0] != "dust":
        return None
    base = number_in(words[1], MOST_DIGITS_OF_NUMBERS)
    return None if base is None else (base,)


def check_line(number, read):
    """What was read of the line of this number, unless it is None."""
    if read is None:
        raise BadText(number)
    return read


def rows_in(lines):
    """The rows that the lines behind the first one write."""
    return tuple([check_line(number, pairs_in(line)) for number, line in enumerate(lines) if number > 1])


def check_end(lines, rest):
    """All lines are closed, and there is one."""
    if rest != "" or len(lines) == 1:
        raise BadText(len(lines))


def split_lines(text):
    """The list of the closed lines, with an empty one ahead as they are counted from 1, and what stands behind them."""
    parts = text.split("\n")
    return [""] + parts[:-1], parts[-1]


def read_machine(text):
    check_text(text)
    lines, rest = split_lines(text)
    head = check_line(1, machine_head(lines[1])) if len(lines) > 1 else None
    rows = rows_in(lines)
    check_end(lines, rest)
    return Machine(head[0], head[1], rows)


def read_dust(text):
    check_text(text)
    lines, rest = split_lines(text)
    head = check_line(1, dust_head(lines[1])) if len(lines) > 1 else None
    rows = rows_in(lines)
    check_end(lines, rest)
    return Dust(head[0], rows)
