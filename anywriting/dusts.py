"""Dusts: numbers that are written by the ways of a web (7.1 and 7.2)."""

from anywriting.choices import played
from anywriting.errors import BadDust, NoNumber, OtherBase
from anywriting.kinds import is_base, is_digit, is_tuple_of
from anywriting.machines import is_index
from anywriting.pictures import WIDEST
from anywriting.ratios import is_below
from anywriting.stretches import rows_between
from anywriting.webs import endless, first_way, folded, longest, web_from
from anywriting.writings import check_base, check_number, is_number, shortest


class Dust:
    """For each node the digits and next nodes by which ways go on from it."""

    def __init__(self, base, rows):
        if not is_base(base):
            raise BadDust("base")
        if not isinstance(rows, tuple) or len(rows) == 0:
            raise BadDust("rows")
        for node, row in enumerate(rows):
            if not is_row_of_ways(base, len(rows), row):
                raise BadDust(node)
        self.base = base
        self.rows = rows

    def __eq__(self, other):
        if not isinstance(other, Dust):
            return False
        return self.base == other.base and self.rows == other.rows


class Readings:
    """Keys (node, top): a way led to the node, and top divided by bottom is still to be written."""

    def __init__(self, dust, bottom):
        self.base = dust.base
        self.rows = dust.rows
        self.bottom = bottom

    def pairs(self, key):
        node, top = key
        found = []
        for digit, after in self.rows[node]:
            left = self.base * top - digit * self.bottom
            if abs(left) <= self.bottom:
                found.append((digit, (after, left)))
        return found


class Unions:
    """Keys (0, 0), (1, node) of one dust, (2, node) of the other one: from (0, 0) all ways of both dusts go on."""

    def __init__(self, one, other):
        self.one_rows = one.rows
        self.other_rows = other.rows

    def pairs(self, key):
        side, node = key
        found = []
        if side != 2:
            found.extend([(digit, (1, after)) for digit, after in self.one_rows[node]])
        if side != 1:
            found.extend([(digit, (2, after)) for digit, after in self.other_rows[node]])
        return found


class Meetings:
    """Keys (p, q, gap): what is written from the node p on is also, less the gap, written from the node q on."""

    def __init__(self, one, other):
        self.base = one.base
        self.one_rows = one.rows
        self.other_rows = other.rows

    def pairs(self, key):
        p, q, gap = key
        found = []
        for digit, after in self.one_rows[p]:
            for other_digit, other_after in self.other_rows[q]:
                left = self.base * gap + digit - other_digit
                if abs(left) <= WIDEST:
                    found.append((digit, (after, other_after, left)))
        return found


def is_row_of_ways(base, many, thing):
    """Whether the thing is right as the tuple of one of so many nodes."""
    if not isinstance(thing, tuple) or len(thing) == 0:
        return False
    if not all([is_pair_of_node(base, many, pair) for pair in thing]):
        return False
    return all([thing[k] < thing[k + 1] for k in range(len(thing) - 1)])


def is_pair_of_node(base, many, thing):
    return is_tuple_of(thing, 2) and is_digit(base, thing[0]) and is_index(many, thing[1])


def readings_of(dust, x):
    check_number(x)
    return web_from((0, x[0]), Readings(dust, x[1]))


def holds(dust, x):
    web = endless(readings_of(dust, x))
    return (0, x[0]) in web


def way_in(dust, x):
    web = endless(readings_of(dust, x))
    if (0, x[0]) not in web:
        return None
    ahead, again = first_way(web, (0, x[0]))
    return shortest(ahead, again)


def barred_at(dust, x):
    web = readings_of(dust, x)
    if (0, x[0]) in endless(web):
        return None
    return longest(web, (0, x[0])) + 1


def bounds(dust):
    many = len(dust.rows)
    return (played(dust.base, dust.rows, [-1] * many)[1][0], played(dust.base, dust.rows, [1] * many)[1][0])


def between(base, x, y):
    check_base(base)
    check_number(x)
    if not is_number(y) or is_below(y, x):
        raise NoNumber()
    return Dust(base, rows_between(base, x, y))


def check_bases(one, other):
    if one.base != other.base:
        raise OtherBase()


def either(one, other):
    check_bases(one, other)
    return Dust(one.base, folded(web_from((0, 0), Unions(one, other)), (0, 0)))


def common(one, other):
    check_bases(one, other)
    web = endless(web_from((0, 0, 0), Meetings(one, other)))
    if (0, 0, 0) not in web:
        return None
    return Dust(one.base, folded(web, (0, 0, 0)))
