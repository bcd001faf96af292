"""Askers who tell another order than the own, and what they have of it."""

from lotmeal.errors import NoAsker, TooGreat
from lotmeal.meal import meal
from lotmeal.sums import as_good
from lotmeal.tables import table_of
from lotmeal.turns import longer, turn_shares

MOST_THINGS = 4


def check_asker(table, asker):
    if asker < 0 or asker >= len(table[1]):
        raise NoAsker("there is no asker with this number")


def told_otherwise(table, asker, order):
    check_asker(table, asker)
    orders = list(table[1])
    orders[asker] = order
    return table_of(table[0], orders)


def all_orders(many):
    if many < 0 or many > MOST_THINGS:
        raise TooGreat("all orders are told of at most four things")
    told = [[]]
    longest = [[]]
    for length in range(many):
        longest = longer(longest, many)
        told.extend(longest)
    return told


def row_at(table, asker, way):
    shares = turn_shares(table) if way == "turns" else meal(table)[1]
    return shares[asker]


def word_for(table, asker, first, new):
    if new == first:
        return "same"
    if as_good(table, asker, first, new):
        return "worse"
    if as_good(table, asker, new, first):
        return "better"
    return "other"


def lies(table, asker, way="meal"):
    orders = all_orders(len(table[0]))
    check_asker(table, asker)
    first = row_at(table, asker, way)
    told = []
    for order in orders:
        new = row_at(told_otherwise(table, asker, order), asker, way)
        told.append((order, word_for(table, asker, first, new)))
    return told
