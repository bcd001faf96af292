import random
import unittest

from helper import (SIXTY, at_least_as_good, check_own_lists, check_shares, many_tables, pair, rows, some_shares,
                    value, whole_shares, whole_table)
from lotmeal.better import bettered
from lotmeal.judged import judged
from lotmeal.meal import meal


class BetteredTest(unittest.TestCase):
    def check(self, table, shares):
        """Bettered again and again until they are good; how often is told."""
        often = 0
        while judged(table, shares)[0] != "good":
            better = bettered(table, shares)
            check_shares(self, table, better)
            self.assertNotEqual(better, shares)
            for asker, line in enumerate(better):
                self.assertTrue(at_least_as_good(table, asker, line, shares[asker]), (table, shares, better))
            shares = better
            often += 1
            self.assertLess(often, 1000)
        self.assertIsNone(bettered(table, shares))
        return often

    def test_left(self):
        self.assertEqual(bettered(([1], [[0]]), rows("0 1")), rows("1 0"))
        self.assertEqual(bettered(([1], [[]]), rows("1 0")), rows("0 1"))
        table = ([1, 1], [[0, 1], [0]])
        for shares in (rows("0 1 0", "0 0 1"), rows("0 0 1", "1/2 1/4 1/4"), rows("1/3 1/3 1/3", "1/3 1/3 1/3")):
            self.assertEqual(judged(table, shares)[0], "left")
            self.assertGreater(self.check(table, shares), 0)

    def test_ring(self):
        table = ([1, 1], [[0, 1], [1, 0]])
        self.assertEqual(bettered(table, rows("0 1 0", "1 0 0")), rows("1 0 0", "0 1 0"))
        for many in range(3, 7):
            table = ([1] * many, [[asker, (asker + 1) % many] for asker in range(many)])
            shares = [[(1, 1) if one == (asker + 1) % many else (0, 1) for one in range(many + 1)]
                      for asker in range(many)]
            self.assertEqual(judged(table, shares)[0], "ring")
            self.assertGreater(self.check(table, shares), 0)

    def test_none_of_good_ones(self):
        self.assertIsNone(bettered(([], [[]]), rows("1")))
        self.assertIsNone(bettered(([1, 1], [[0, 1], [1, 0]]), rows("1 0 0", "0 1 0")))
        self.assertIsNone(bettered(([0], [[0]]), rows("0 1")))
        for table in many_tables(25, 300):
            self.assertIsNone(bettered(table, meal(table)[1]))

    def test_many_left(self):
        chance = random.Random(26)
        for table in many_tables(26, 400):
            self.check(table, some_shares(chance, table[0], len(table[1])))

    def test_many_rings(self):
        chance = random.Random(27)
        for number in range(400):
            table = whole_table(chance, chance.randint(2, 6))
            self.check(table, whole_shares(chance, table[0]))

    def test_great_bottoms(self):
        chance = random.Random(28)
        for number in range(40):
            table = whole_table(chance, 6)
            self.check(table, whole_shares(chance, table[0], deals=6, bottom=SIXTY))
        for table in many_tables(28, 40, askers=6, things=6):
            self.check(table, some_shares(chance, table[0], 6, deals=6, bottom=SIXTY))

    def test_little_shares_between_great_ones(self):
        # Going round by the little share, or by the little that is left, would never come to an end.
        little = (1, SIXTY)
        much = pair(1 - value(little))
        table = ([1, 1, 1], [[0, 1, 2], [2, 1, 0]])
        self.check(table, [[(0, 1), little, much, (0, 1)], [much, little, (0, 1), (0, 1)]])
        table = ([1, 1], [[0, 1], [1, 0]])
        self.check(table, [[(0, 1), (1, 1), (0, 1)], [much, (0, 1), little]])
        self.check(table, [[(0, 1), much, little], [much, (0, 1), little]])

    def test_lists(self):
        check_own_lists(self, bettered, ([1, 1], [[0, 1], [1, 0]]), rows("0 1 0", "1 0 0"))
        check_own_lists(self, bettered, ([1, 1], [[0, 1], [1, 0]]), rows("1/2 0 1/2", "0 1 0"))
        chance = random.Random(29)
        for table in many_tables(29, 40):
            check_own_lists(self, bettered, table, some_shares(chance, table[0], len(table[1])))


if __name__ == "__main__":
    unittest.main()
