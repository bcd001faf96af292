"""Rows of shares held against one another, by the sums over the beginnings of an asker's full order."""

from lotmeal.fractions import fraction, plus, under
from lotmeal.tables import full_order


def sums(table, asker, row):
    told = []
    total = fraction(0)
    for one in full_order(table, asker):
        total = plus(total, row[one])
        told.append(total)
    return told


def as_good(table, asker, one, other):
    own = sums(table, asker, one)
    others = sums(table, asker, other)
    return not any([under(mine, theirs) for mine, theirs in zip(own, others)])
