"""Fractions: tuples (top, bottom) of whole numbers in lowest terms, the bottom from 1 on."""

from lotmeal.errors import NoNumber


def is_whole(number):
    # True and False are ints to Python, yet no whole numbers here.
    return isinstance(number, int) and not isinstance(number, bool)


def common_part(one, other):
    """The greatest whole number that divides both; neither is below 0, and not both are 0."""
    while other != 0:
        rest = one % other
        one = other
        other = rest
    return one


def fraction(top, bottom=1):
    if not is_whole(top) or not is_whole(bottom):
        raise NoNumber("a fraction is made of whole numbers alone")
    if bottom == 0:
        raise NoNumber("the bottom of a fraction is not 0")
    part = common_part(abs(top), abs(bottom))
    # Dividing by a part with the bottom's own sign brings the sign up to the top.
    if bottom < 0:
        part = -part
    return (top // part, bottom // part)


def plus(one, other):
    return fraction(one[0] * other[1] + other[0] * one[1], one[1] * other[1])


def minus(one, other):
    return fraction(one[0] * other[1] - other[0] * one[1], one[1] * other[1])


def times(one, other):
    return fraction(one[0] * other[0], one[1] * other[1])


def over(one, other):
    if other[0] == 0:
        raise NoNumber("nothing is divided by 0")
    return fraction(one[0] * other[1], one[1] * other[0])


def under(one, other):
    return one[0] * other[1] < other[0] * one[1]


def sum_of(some):
    total = fraction(0)
    for one in some:
        total = plus(total, one)
    return total


def common_bottom(some):
    least = 1
    for one in some:
        least = least * one[1] // common_part(least, one[1])
    return least


def least_of(some):
    """The least of a list of fractions, one at least."""
    least = some[0]
    for one in some:
        if under(one, least):
            least = one
    return least


def bottom_of_all(rows):
    """The least common bottom of all fractions in a list of lists."""
    return common_bottom([(1, common_bottom(row)) for row in rows])


def parts_of(one, bottom):
    """How many parts a fraction comes to, of which so many make 1; its own bottom divides that number."""
    return one[0] * (bottom // one[1])
