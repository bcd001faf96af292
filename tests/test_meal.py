import unittest
from fractions import Fraction

from helper import check_own_lists, check_shares, full, many_tables, row, rows, value
from lotmeal.meal import meal
from lotmeal.tables import is_shares

# Each meal gone along by hand: counts, orders, steps as (length, eaten, ended), shares.
BY_HAND = [
    # No thing at all.
    ([], [[]], [("1", [0], [])], ["1"]),
    ([], [[], [], []], [("1", [0, 0, 0], [])], ["1", "1", "1"]),
    # One asker: the best that is there, its end just at time 1.
    ([1, 1], [[1, 0]], [("1", [1], [1])], ["0 1 0"]),
    ([1, 2], [[1, 0]], [("1", [1], [])], ["0 1 0"]),
    ([1, 0], [[1, 0]], [("1", [0], [0])], ["1 0 0"]),
    ([5, 0], [[1]], [("1", [2], [])], ["0 0 1"]),
    ([9], [[]], [("1", [1], [])], ["0 1"]),
    # Two askers with one order.
    ([1, 1], [[0, 1], [0, 1]], [("1/2", [0, 0], [0]), ("1/2", [1, 1], [1])], ["1/2 1/2 0", "1/2 1/2 0"]),
    ([1], [[0], [0]], [("1/2", [0, 0], [0]), ("1/2", [1, 1], [])], ["1/2 1/2", "1/2 1/2"]),
    ([2], [[0], [0]], [("1", [0, 0], [0])], ["1 0", "1 0"]),
    # Two things end at one moment.
    ([1, 1, 1], [[0, 2], [0], [1, 2], [1]], [("1/2", [0, 0, 1, 1], [0, 1]), ("1/2", [2, 3, 2, 3], [2])],
     ["1/2 0 1/2 0", "1/2 0 0 1/2", "0 1/2 1/2 0", "0 1/2 0 1/2"]),
    # A thing that was eaten by more as others came to an end.
    ([1, 1, 1], [[0, 1], [0, 2], [1, 0]],
     [("1/2", [0, 0, 1], [0]), ("1/4", [1, 2, 1], [1]), ("1/4", [3, 2, 3], [])],
     ["1/2 1/4 0 1/4", "1/2 0 1/2 0", "0 3/4 0 1/4"]),
    # Counts of 0 are gone from the start and end in no step.
    ([0, 1, 0], [[0, 1], [2, 1, 0], [2, 0]], [("1/2", [1, 1, 3], [1]), ("1/2", [3, 3, 3], [])],
     ["0 1/2 0 1/2", "0 1/2 0 1/2", "0 0 0 1"]),
    # Six askers and six things.
    ([1, 1, 1, 0, 9, 1], [[0, 1], [0, 1], [0, 2, 5], [2, 3, 5], [4], []],
     [("1/3", [0, 0, 0, 2, 4, 6], [0]), ("1/3", [1, 1, 2, 2, 4, 6], [2]), ("1/6", [1, 1, 5, 5, 4, 6], [1]),
      ("1/6", [6, 6, 5, 5, 4, 6], [])],
     ["1/3 1/2 0 0 0 0 1/6", "1/3 1/2 0 0 0 0 1/6", "1/3 0 1/3 0 0 1/3 0", "0 0 2/3 0 0 1/3 0",
      "0 0 0 0 1 0 0", "0 0 0 0 0 0 1"]),
    # Six askers for one thing, and a thing that ends just at time 1 with others left.
    ([1, 5], [[0, 1]] * 6, [("1/6", [0] * 6, [0]), ("5/6", [1] * 6, [1])], ["1/6 5/6 0"] * 6),
    ([9, 9], [[1, 0]] * 6, [("1", [1] * 6, [])], ["0 1 0"] * 6),
]


class MealTest(unittest.TestCase):
    def test_by_hand(self):
        for counts, orders, steps, shares in BY_HAND:
            with self.subTest(counts=counts, orders=orders):
                told = meal((list(counts), [list(order) for order in orders]))
                self.assertIs(type(told), tuple)
                self.assertEqual(told[0], [(row(length)[0], eaten, ended) for length, eaten, ended in steps])
                self.assertEqual(told[1], rows(*shares))

    def go_along(self, table, steps):
        """The steps gone along by the rules, with Python's own fractions; what each has eaten comes of it."""
        counts, orders = table
        left = [Fraction(count) for count in counts]
        got = [[Fraction(0)] * (len(counts) + 1) for order in orders]
        time = Fraction(0)
        for length, eaten, ended in steps:
            self.assertGreater(value(length), 0)
            self.assertLess(time, 1)
            for asker in range(len(orders)):
                there = [one for one in full(table, asker) if one == len(counts) or left[one] > 0]
                self.assertEqual(eaten[asker], there[0])
                got[asker][eaten[asker]] += value(length)
            for thing in range(len(counts)):
                left[thing] -= value(length) * eaten.count(thing)
                self.assertGreaterEqual(left[thing], 0)
            self.assertEqual(ended, [thing for thing in range(len(counts)) if thing in eaten and left[thing] == 0])
            time += value(length)
            self.assertTrue(ended or time == 1)
        self.assertEqual(time, 1)
        return got

    def test_many_tables(self):
        for table in many_tables(12, 500):
            with self.subTest(table=table):
                steps, shares = meal(table)
                for step in steps:
                    self.assertEqual([type(part) for part in step], [tuple, list, list])
                    self.assertEqual(len(step[1]), len(table[1]))
                    self.assertEqual(step[2], sorted(step[2]))
                got = self.go_along(table, steps)
                self.assertEqual([[value(share) for share in line] for line in shares], got)
                check_shares(self, table, shares)
                self.assertIs(is_shares(table, shares), True)

    def test_one_order_has_one_row(self):
        met = 0
        for table in many_tables(13, 300):
            shares = meal(table)[1]
            for one, first in enumerate(table[1]):
                for other, second in enumerate(table[1]):
                    if one != other and first == second:
                        met += 1
                        self.assertEqual(shares[one], shares[other])
        self.assertGreater(met, 100)

    def test_all_lists_are_new(self):
        for counts, orders, steps, shares in BY_HAND:
            check_own_lists(self, meal, (list(counts), [list(order) for order in orders]))
        for table in many_tables(14, 60):
            check_own_lists(self, meal, table)


if __name__ == "__main__":
    unittest.main()
