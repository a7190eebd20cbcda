"""Webs: dicts with, for each key, the list of pairs (digit, key) that lead on from it."""


def web_from(start, guide):
    """The web of all keys that can be come to from the start; guide.pairs(key) tells what leads on from a key."""
    return web_within(start, guide, None)


def web_within(start, guide, most):
    """As web_from, but None if there are more keys than the most."""
    web = {}
    keys = [start]
    seen = {start: True}
    while len(web) < len(keys):
        key = keys[len(web)]
        web[key] = guide.pairs(key)
        for _, after in web[key]:
            if after not in seen:
                seen[after] = True
                keys.append(after)
        if most is not None and len(keys) > most:
            return None
    return web


def endless(web):
    """The web of those keys alone from which ways without end go on."""
    before = {key: [] for key in web}
    counts = {}
    for key, pairs in web.items():
        counts[key] = len(pairs)
        for _, after in pairs:
            before[after].append(key)
    barred = [key for key in web if counts[key] == 0]
    at = 0
    while at < len(barred):
        leading = before[barred[at]]
        at += 1
        for key in leading:
            counts[key] -= 1
            if counts[key] == 0:
                barred.append(key)
    return {key: [pair for pair in pairs if counts[pair[1]] > 0] for key, pairs in web.items() if counts[key] > 0}


def first_way(web, start):
    """The digits by which the first pairs lead on from the start: those ahead, and those again and again."""
    places = {}
    digits = []
    at = start
    while at not in places:
        places[at] = len(digits)
        digit, at = web[at][0]
        digits.append(digit)
    return tuple(digits[:places[at]]), tuple(digits[places[at]:])


def longest(web, start):
    """How many digits the longest way from the start has, where no way is without end."""
    many = 0
    level = [start]
    while True:
        after = {}
        for key in level:
            for _, beyond in web[key]:
                after[beyond] = True
        if len(after) == 0:
            return many
        level = list(after)
        many += 1


def folded(web, start):
    """The rows of nodes, the first one for the start, of an endless web.

    Keys from which the same digits lead on, and so for ever, have one node. Nodes are numbered as they are come to.
    """
    groups = alike_keys(web)
    numbers = {groups[start]: 0}
    keys = [start]
    rows = []
    while len(rows) < len(keys):
        row = []
        pairs = web[keys[len(rows)]]
        for digit, after in pairs:
            if groups[after] not in numbers:
                numbers[groups[after]] = len(keys)
                keys.append(after)
            row.append((digit, numbers[groups[after]]))
        rows.append(tuple(sorted(set(row))))
    return tuple(rows)


def alike_keys(web):
    """For each key the number of its group: from keys of one group the same digits lead on to the same groups."""
    groups = {key: 0 for key in web}
    many = 1
    while True:
        signs = {}
        finer = {}
        for key, pairs in web.items():
            sign = tuple(sorted(set([(digit, groups[after]) for digit, after in pairs])))
            finer[key] = signs.setdefault(sign, len(signs))
        if len(signs) == many:
            return finer
        groups = finer
        many = len(signs)
