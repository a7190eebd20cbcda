"""Rows, machines and dusts as texts (9.1)."""

from anywriting.errors import NoRow
from anywriting.writings import is_row


def integers_text(integers):
    return ",".join([str(item) for item in integers])


def row_text(row):
    if not is_row(row):
        raise NoRow()
    return integers_text(row[0]) + ":" + integers_text(row[1])


def machine_text(machine):
    head = "machine " + str(machine.base) + " " + str(machine.first)
    return lines_text([head] + [pairs_text(row) for row in machine.rows])


def dust_text(dust):
    head = "dust " + str(dust.base)
    return lines_text([head] + [pairs_text(row) for row in dust.rows])


def pairs_text(row):
    """The pairs of one state or node."""
    return " ".join([str(item) + ">" + str(after) for item, after in row])


def lines_text(lines):
    """The lines, each one closed."""
    return "".join([line + "\n" for line in lines])


def fraction_text(fraction):
    top, bottom = fraction
    return str(top) if bottom == 1 else str(top) + "/" + str(bottom)
