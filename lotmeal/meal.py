"""The meal: all eat at one pace, each of the best that is left."""

from lotmeal.fractions import fraction, least_of, minus, over, sum_of, times
from lotmeal.tables import first_left, full_order


def next_length(left, eaten, time_left):
    """How long it is until a thing that is eaten comes to its end, or the meal does."""
    # The last number, that of nothing, has no place in left: it never comes to its end.
    things = [thing for thing in range(len(left)) if thing in eaten]
    return least_of([time_left] + [over(left[thing], fraction(eaten.count(thing))) for thing in things])


def left_behind(left, eaten, length):
    return [minus(some, times(length, fraction(eaten.count(thing)))) for thing, some in enumerate(left)]


def ended_things(left):
    return [thing for thing, some in enumerate(left) if some == fraction(0)]


def meal_steps(table):
    orders = [full_order(table, asker) for asker in range(len(table[1]))]
    left = [fraction(count) for count in table[0]]
    time_left = fraction(1)
    steps = []
    while time_left != fraction(0):
        gone = ended_things(left)
        eaten = [first_left(order, gone) for order in orders]
        length = next_length(left, eaten, time_left)
        left = left_behind(left, eaten, length)
        time_left = minus(time_left, length)
        steps.append((length, eaten, [thing for thing in ended_things(left) if thing in eaten]))
    return steps


def eaten_by(steps, asker, one):
    return sum_of([length for length, eaten, ended in steps if eaten[asker] == one])


def meal(table):
    steps = meal_steps(table)
    many = len(table[0])
    shares = [[eaten_by(steps, asker, one) for one in range(many + 1)] for asker in range(len(table[1]))]
    return (steps, shares)
