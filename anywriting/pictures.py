"""Pictures of dusts (7.2): what can be seen of the ways from near by, behind tuples of digits."""

from anywriting.errors import TooMany

MOST_PICTURES = 2000
WIDEST = 2


def behind_digits(base, rows, picture):
    """For each digit the picture, an ascending tuple of pairs (node, k), behind it."""
    highest = 2 * base - 2
    found = [[] for _ in range(highest + 1)]
    for node, k in picture:
        for digit, after in rows[node]:
            place = base * k + digit + base - 1
            for at in range(max(0, place - WIDEST), min(highest, place + WIDEST) + 1):
                found[at].append((after, place - at))
    return [tuple(sorted(set(pairs))) for pairs in found]


def seen_within(base, rows, most):
    """The list of all pictures, and for each of them the list of the numbers of those behind the digits.

    None if there are more than the most.
    """
    pictures = [((0, 0),)]
    numbers = {pictures[0]: 0}
    steps = []
    while len(steps) < len(pictures):
        step = []
        for picture in behind_digits(base, rows, pictures[len(steps)]):
            if picture not in numbers:
                numbers[picture] = len(pictures)
                pictures.append(picture)
            step.append(numbers[picture])
        steps.append(step)
        if len(pictures) > most:
            return None
    return pictures, steps


def pictures_of(dust):
    """As seen_within tells, of no more pictures than are let."""
    found = seen_within(dust.base, dust.rows, MOST_PICTURES)
    if found is None:
        raise TooMany(MOST_PICTURES)
    return found
