"""What several tests need: fractions and rows written short, many tables, and looks at lists that are told."""

import copy
import random
from fractions import Fraction

SIXTY = 10 ** 59 + 7


def pair(value):
    value = Fraction(value)
    return (value.numerator, value.denominator)


def row(text):
    """A row of fractions from a text such as "1/2 0 1/2"."""
    return [pair(word) for word in text.split()]


def rows(*texts):
    return [row(text) for text in texts]


def value(one):
    return Fraction(*one)


def full(table, asker):
    counts, orders = table
    many = len(counts)
    return orders[asker] + [many] + [thing for thing in range(many) if thing not in orders[asker]]


def some_order(chance, things):
    order = list(range(things))
    chance.shuffle(order)
    return order[:chance.randint(0, things)]


def some_table(chance, askers=None, things=None, most=3):
    """A table drawn by a seeded source; orders alike and counts of 0 come often."""
    askers = chance.randint(1, 6) if askers is None else askers
    things = chance.randint(0, 6) if things is None else things
    counts = [chance.choice([0, 1, 1, 1, 2, most]) for thing in range(things)]
    orders = [some_order(chance, things) for asker in range(askers)]
    for asker in range(1, askers):
        if chance.random() < 0.2:
            orders[asker] = list(orders[asker - 1])
        elif chance.random() < 0.5:
            orders[asker] += [thing for thing in range(things) if thing not in orders[asker]]
    return (counts, orders)


def many_tables(seed, many, askers=None, things=None):
    chance = random.Random(seed)
    return [some_table(chance, askers, things) for number in range(many)]


def some_deal(chance, counts, askers):
    """A deal of the counts: the askers take one by one, perhaps nothing, perhaps what is not wanted."""
    left = list(counts)
    deal = [len(counts)] * askers
    for asker in chance.sample(range(askers), askers):
        choices = [thing for thing, count in enumerate(left) if count > 0]
        if choices and chance.random() < 0.85:
            deal[asker] = chance.choice(choices)
            left[deal[asker]] -= 1
    return deal


def mixed(counts, weights_and_deals):
    """The shares of deals with weights, reckoned with Python's own fractions."""
    askers = len(weights_and_deals[0][1])
    table = [[Fraction(0)] * (len(counts) + 1) for asker in range(askers)]
    for weight, deal in weights_and_deals:
        for asker, one in enumerate(deal):
            table[asker][one] += Fraction(weight)
    return [[pair(share) for share in line] for line in table]


def some_weights(chance, many, bottom=12):
    parts = [chance.randint(1, bottom) for number in range(many)]
    return [Fraction(part, sum(parts)) for part in parts]


def some_shares(chance, counts, askers, deals=4, bottom=12):
    weights = some_weights(chance, chance.randint(1, deals), bottom)
    return mixed(counts, [(weight, some_deal(chance, counts, askers)) for weight in weights])


def lists_in(one):
    """All lists in a value, itself and those in tuples among them."""
    found = [one] if isinstance(one, list) else []
    if isinstance(one, (list, tuple)):
        for part in one:
            found += lists_in(part)
    return found


def scribble(one):
    """Change every list in a value."""
    for part in lists_in(one):
        part.append("changed")
        part.reverse()


def check_own_lists(test, function, *handed):
    """What is handed in stays; every list told is a new one; changing either changes nothing that is told later."""
    before = copy.deepcopy(handed)
    told = function(*handed)
    test.assertEqual(handed, before)
    lists = lists_in(told)
    known = [id(part) for one in handed for part in lists_in(one)] + [id(part) for part in lists]
    test.assertEqual(len(lists), len([part for part in lists if known.count(id(part)) == 1]))
    kept = copy.deepcopy(told)
    again = function(*handed)
    scribble(told)
    test.assertEqual(again, kept)
    test.assertEqual(handed, before)
    test.assertEqual(function(*handed), kept)
    last = function(*handed)
    scribble(handed)
    test.assertEqual(last, kept)


def check_shares(test, table, shares):
    """Shares of a table, looked at with Python's own fractions."""
    counts, orders = table
    test.assertIs(type(shares), list)
    test.assertEqual(len(shares), len(orders))
    for line in shares:
        test.assertIs(type(line), list)
        test.assertEqual(len(line), len(counts) + 1)
        for share in line:
            test.assertIs(type(share), tuple)
            test.assertEqual(share, pair(value(share)))
            test.assertGreaterEqual(value(share), 0)
        test.assertEqual(sum(value(share) for share in line), 1)
    for thing, count in enumerate(counts):
        test.assertLessEqual(sum(value(line[thing]) for line in shares), count)


def at_least_as_good(table, asker, one, other):
    order = full(table, asker)
    for length in range(1, len(order) + 1):
        if sum(value(one[part]) for part in order[:length]) < sum(value(other[part]) for part in order[:length]):
            return False
    return True


def whole_table(chance, askers):
    """A table in which all want all things, of which there are just as many as askers, so that nothing is left."""
    things = chance.randint(1, 6)
    counts = [0] * things
    for asker in range(askers):
        counts[chance.randrange(things)] += 1
    orders = [chance.sample(range(things), things) for asker in range(askers)]
    return (counts, orders)


def whole_shares(chance, counts, deals=3, bottom=12):
    """Shares in which every thing is full: a mix of deals of all there is."""
    slots = [thing for thing, count in enumerate(counts) for number in range(count)]
    weights = some_weights(chance, chance.randint(1, deals), bottom)
    return mixed(counts, [(weight, chance.sample(slots, len(slots))) for weight in weights])


def check_judged(test, table, shares, told):
    """A judgement gone along; its word comes back."""
    counts, orders = table
    many = len(counts) + 1
    wishes = []
    for asker, line in enumerate(shares):
        order = full(table, asker)
        wishes += [(asker, a, b) for place, b in enumerate(order) for a in order[:place] if value(line[b]) > 0]
    whole = [thing for thing, count in enumerate(counts) if sum(value(line[thing]) for line in shares) == count]
    left = [wish for wish in wishes if wish[1] not in whole]
    test.assertIs(type(told), tuple)
    if left:
        test.assertEqual(told, ("left",) + min(left))
    elif told[0] == "ring":
        test.assertEqual(len(told), 2)
        ring = told[1]
        test.assertIs(type(ring), list)
        test.assertGreaterEqual(len(ring), 2)
        for place, wish in enumerate(ring):
            test.assertIs(type(wish), tuple)
            test.assertIn(wish, wishes)
            test.assertEqual(wish[2], ring[(place + 1) % len(ring)][1])
        test.assertEqual(len({wish[1] for wish in ring}), len(ring))
    else:
        test.assertEqual(told[0], "good")
        test.assertEqual(len(told), 2)
        test.assertIs(type(told[1]), list)
        test.assertEqual(sorted(told[1]), list(range(many)))
        for asker, a, b in wishes:
            test.assertLess(told[1].index(a), told[1].index(b))
    return told[0]
