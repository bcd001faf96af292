"""Who would have another one's row of shares."""

from lotmeal.fractions import under
from lotmeal.sums import sums


def least_beginning(table, asker, own, other):
    """How long the least beginning is over which the other row has more; None where there is none."""
    pairs = list(zip(sums(table, asker, own), sums(table, asker, other)))
    lengths = [place + 1 for place, pair in enumerate(pairs) if under(pair[0], pair[1])]
    return lengths[0] if lengths != [] else None


def envy(table, shares):
    told = []
    for asker, own in enumerate(shares):
        for other, row in enumerate(shares):
            many = least_beginning(table, asker, own, row)
            if many is not None:
                told.append((asker, other, many))
    return told
