"""The meal looked at afterwards: when each thing comes to its end, and whether steps are the meal's."""

from lotmeal.fractions import fraction, plus
from lotmeal.meal import meal_steps


def ends(table):
    told = [fraction(0) if count == 0 else None for count in table[0]]
    now = fraction(0)
    for length, eaten, ended in meal_steps(table):
        now = plus(now, length)
        for thing in ended:
            told[thing] = now
    return told


def is_meal(table, steps):
    # The rules leave no choice at any moment, so a table has these steps and no others.
    return steps == meal_steps(table)
