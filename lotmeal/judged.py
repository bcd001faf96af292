"""Shares judged: whether something better is left, whether askers could swap in a ring, or whether they are good."""

from lotmeal.fractions import fraction
from lotmeal.tables import dealt_of, full_order


def wishes(table, shares):
    """All (asker, a, b), sorted, such that the asker has a ahead of b and a share of b above 0."""
    told = []
    for asker, row in enumerate(shares):
        order = full_order(table, asker)
        for place, b in enumerate(order):
            if row[b] != fraction(0):
                told.extend([(asker, a, b) for a in order[:place]])
    return sorted(told)


def over_pairs(table, shares):
    return sorted(set([(a, b) for asker, a, b in wishes(table, shares)]))


def full_things(counts, shares):
    return [thing for thing, count in enumerate(counts) if dealt_of(shares, thing) == fraction(count)]


def lined_up(many, pairs):
    """The numbers below many, each behind all that are over it; without those in a ring or behind one."""
    order = []
    rest = list(range(many))
    free = rest
    while free != []:
        held = [b for a, b in pairs if a in rest]
        free = [one for one in rest if one not in held]
        rest = [one for one in rest if one in held]
        order.extend(free)
    return order


def ring_among(rest, wished):
    """A ring of wishes among some numbers, over each of which stands another one of them."""
    path = []
    passed = []
    now = rest[0]
    while now not in passed:
        passed.append(now)
        path.append([wish for wish in wished if wish[1] in rest and wish[2] == now][0])
        now = path[-1][1]
    # The path goes from each b up to its a, and a ring is told from each a down to its b.
    return list(reversed(path[passed.index(now):]))


def judged(table, shares):
    many = len(table[0]) + 1
    wished = wishes(table, shares)
    full = full_things(table[0], shares)
    left = [wish for wish in wished if wish[1] not in full]
    if left != []:
        return ("left", left[0][0], left[0][1], left[0][2])
    order = lined_up(many, over_pairs(table, shares))
    rest = [one for one in range(many) if one not in order]
    if rest != []:
        return ("ring", ring_among(rest, wished))
    return ("good", order)
