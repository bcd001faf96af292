"""Mixes of whole deals with weights, and shares told as such."""

from lotmeal.deals import deal_of
from lotmeal.errors import NoShares
from lotmeal.fractions import bottom_of_all, fraction, least_of, parts_of, sum_of
from lotmeal.tables import MOST, are_shares


def weight_of(mix, asker, one):
    return sum_of([weight for weight, deal in mix if deal[asker] == one])


def shares_of(counts, mix):
    askers = len(mix[0][1])
    return [[weight_of(mix, asker, one) for one in range(len(counts) + 1)] for asker in range(askers)]


def spare_parts(counts, left):
    """Of each thing, by how much less there is in what is left to deal than there may be."""
    whole = sum(left[0])
    return [count * whole - sum([row[thing] for row in left]) for thing, count in enumerate(counts)]


def next_deal(counts, left):
    # A thing without anything to spare has to be dealt wholly by all deals that are still to come.
    must = [thing for thing, parts in enumerate(spare_parts(counts, left)) if parts == 0]
    may = [[one for one, parts in enumerate(row) if parts > 0] for row in left]
    return deal_of(counts, may, must)


def most_weight(counts, left, deal):
    """The greatest weight of a deal, in parts, until a share or what may be spared of a thing has come to its end."""
    weights = [fraction(left[asker][one]) for asker, one in enumerate(deal)]
    for thing, parts in enumerate(spare_parts(counts, left)):
        unused = counts[thing] - deal.count(thing)
        if unused > 0:
            weights.append(fraction(parts, unused))
    return least_of(weights)


def left_after(left, deal, weight):
    """What is left to deal behind a deal; the parts become so much smaller that the weight is a whole number."""
    finer = [[parts * weight[1] for parts in row] for row in left]
    for asker, one in enumerate(deal):
        finer[asker][one] = finer[asker][one] - weight[0]
    return finer


def mix_of(counts, shares):
    if len(shares) == 0 or len(shares) > MOST or not are_shares(counts, shares):
        raise NoShares("these are no shares of the counts")
    # Whole numbers of parts, of which bottom make 1, are far quicker than fractions with great bottoms.
    bottom = bottom_of_all(shares)
    left = [[parts_of(share, bottom) for share in row] for row in shares]
    mix = []
    while sum(left[0]) > 0:
        deal = next_deal(counts, left)
        weight = most_weight(counts, left, deal)
        left = left_after(left, deal, weight)
        bottom = bottom * weight[1]
        mix.append((fraction(weight[0], bottom), deal))
    return mix
