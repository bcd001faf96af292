import random
import unittest

from helper import SIXTY, check_own_lists, full, many_tables, pair, rows, some_shares, value
from lotmeal.envy import envy
from lotmeal.meal import meal


class EnvyTest(unittest.TestCase):
    def test_none_of_the_meal_s(self):
        for table in many_tables(20, 400):
            self.assertEqual(envy(table, meal(table)[1]), [])

    def test_one_would(self):
        table = ([1, 1], [[0, 1], [1]])
        self.assertEqual(envy(table, rows("0 1 0", "1 0 0")), [(0, 1, 1), (1, 0, 1)])
        self.assertEqual(envy(table, rows("1 0 0", "0 1 0")), [])
        self.assertEqual(envy(table, rows("1/2 1/2 0", "1/2 1/2 0")), [])
        self.assertEqual(envy(table, rows("1/2 0 1/2", "1/2 1/2 0")), [(0, 1, 2)])
        self.assertEqual(envy(table, rows("0 1/2 1/2", "1/2 0 1/2")), [(0, 1, 1), (1, 0, 1)])
        self.assertEqual(envy(table, rows("0 1 0", "0 0 1")), [(1, 0, 1)])

    def test_how_long_the_least_beginning_is(self):
        table = ([1, 1, 1, 1], [[3, 1, 0, 2], []])
        # The first asker's full order is 3 1 0 2 4, the second one's 4 0 1 2 3.
        self.assertEqual(envy(table, rows("0 0 0 0 1", "0 0 0 1 0")), [(0, 1, 1), (1, 0, 1)])
        self.assertEqual(envy(table, rows("0 0 0 0 1", "0 1 0 0 0")), [(0, 1, 2), (1, 0, 1)])
        self.assertEqual(envy(table, rows("0 0 0 0 1", "1 0 0 0 0")), [(0, 1, 3), (1, 0, 1)])
        self.assertEqual(envy(table, rows("0 0 0 0 1", "0 0 1 0 0")), [(0, 1, 4), (1, 0, 1)])
        self.assertEqual(envy(table, rows("0 0 0 0 1", "0 0 0 0 1")), [])
        self.assertEqual(envy(table, rows("0 0 0 1/2 1/2", "0 1/2 0 1/4 1/4")), [(0, 1, 2), (1, 0, 1)])
        self.assertEqual(envy(table, rows("1 0 0 0 0", "0 1 0 0 0")), [(0, 1, 2), (1, 0, 2)])

    def test_with_what_is_not_wanted(self):
        table = ([1, 1, 1], [[], []])
        # Both have the full order 3 0 1 2.
        self.assertEqual(envy(table, rows("0 1 0 0", "1 0 0 0")), [(0, 1, 2)])
        self.assertEqual(envy(table, rows("0 0 1 0", "0 1 0 0")), [(0, 1, 3)])
        self.assertEqual(envy(table, rows("0 0 1 0", "0 0 0 1")), [(0, 1, 1)])

    def test_all_would(self):
        table = ([1, 1, 1], [[0], [1], [2]])
        # The full orders are 0 3 1 2, then 1 3 0 2, then 2 3 0 1.
        self.assertEqual(envy(table, rows("0 1 0 0", "0 0 1 0", "1 0 0 0")),
                         [(0, 2, 1), (1, 0, 1), (1, 2, 3), (2, 1, 1)])
        table = ([3], [[0], [0], [0]])
        self.assertEqual(envy(table, rows("1/3 2/3", "2/3 1/3", "1 0")), [(0, 1, 1), (0, 2, 1), (1, 2, 1)])

    def test_no_thing(self):
        self.assertEqual(envy(([], [[], []]), rows("1", "1")), [])

    def test_the_least_that_is_more(self):
        table = ([1], [[0], [0]])
        less = pair(1 - value((1, SIXTY)) - value((1, 2)))
        shares = [[less, pair(1 - value(less))], [(1, 2), (1, 2)]]
        self.assertEqual(envy(table, shares), [(0, 1, 1)])

    def test_many(self):
        chance = random.Random(21)
        met = {}
        for table in many_tables(21, 250):
            shares = some_shares(chance, table[0], len(table[1]))
            wanted = []
            for asker in range(len(shares)):
                order = full(table, asker)
                for other in range(len(shares)):
                    for length in range(1, len(order) + 1):
                        own = sum(value(shares[asker][one]) for one in order[:length])
                        if own < sum(value(shares[other][one]) for one in order[:length]):
                            wanted.append((asker, other, length))
                            met[length] = True
                            break
            told = envy(table, shares)
            self.assertEqual(told, wanted)
            self.assertEqual(told, sorted(told))
        self.assertGreaterEqual(len(met), 5)

    def test_lists(self):
        check_own_lists(self, envy, ([1, 1], [[0, 1], [1]]), rows("0 1 0", "1 0 0"))
        check_own_lists(self, envy, ([1, 1], [[0, 1], [1]]), rows("1 0 0", "0 1 0"))


if __name__ == "__main__":
    unittest.main()
