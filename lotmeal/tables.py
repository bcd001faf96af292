"""Tables (counts, orders), the askers' full orders, and whether fractions are shares of a table."""

from lotmeal.errors import NoAsker, NoNumber, NoThing, TooGreat, Twice
from lotmeal.fractions import fraction, sum_of, under

MOST = 6
MOST_COUNT = 9


def check_orders(orders, many):
    # Two walks: a number that is no thing's counts first, whichever asker has it.
    for asker, order in enumerate(orders):
        if any([thing < 0 or thing >= many for thing in order]):
            raise NoThing(asker)
    for asker, order in enumerate(orders):
        if len(set(order)) != len(order):
            raise Twice(asker)


def table_of(counts, orders):
    if len(counts) > MOST or len(orders) > MOST:
        raise TooGreat("a table has at most six things and at most six askers")
    if len(orders) == 0:
        raise NoAsker("a table has one asker at least")
    if any([count < 0 or count > MOST_COUNT for count in counts]):
        raise NoNumber("of a thing there are from 0 to 9")
    check_orders(orders, len(counts))
    return (list(counts), [list(order) for order in orders])


def full_order(table, asker):
    many = len(table[0])
    order = table[1][asker]
    return order + [many] + [thing for thing in range(many) if thing not in order]


def first_left(order, gone):
    """The best of a full order that is not among those gone; nothing never is, so there is always one."""
    return [one for one in order if one not in gone][0]


def dealt_of(shares, one):
    return sum_of([row[one] for row in shares])


def is_row(row, many):
    if len(row) != many + 1:
        return False
    if any([under(share, fraction(0)) for share in row]):
        return False
    return sum_of(row) == fraction(1)


def are_shares(counts, shares):
    """Whether these are shares of the counts, for however many askers."""
    if not all([is_row(row, len(counts)) for row in shares]):
        return False
    return not any([under(fraction(count), dealt_of(shares, thing)) for thing, count in enumerate(counts)])


def is_shares(table, shares):
    return len(shares) == len(table[1]) and are_shares(table[0], shares)
