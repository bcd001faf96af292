import copy
import random
import unittest

from helper import SIXTY, at_least_as_good, check_own_lists, full, many_tables, pair, row, some_shares, value
from lotmeal.sums import as_good, sums

TABLE = ([1, 1, 1], [[2, 0], [], [0, 1, 2]])


class SumsTest(unittest.TestCase):
    def test_by_hand(self):
        line = row("1/2 1/6 1/4 1/12")
        # The full orders are 2 0 3 1, then 3 0 1 2, then 0 1 2 3.
        self.assertEqual(sums(TABLE, 0, line), row("1/4 3/4 5/6 1"))
        self.assertEqual(sums(TABLE, 1, line), row("1/12 7/12 3/4 1"))
        self.assertEqual(sums(TABLE, 2, line), row("1/2 2/3 11/12 1"))

    def test_no_thing(self):
        self.assertEqual(sums(([], [[]]), 0, row("1")), row("1"))

    def test_great_bottoms(self):
        table = ([1, 1], [[1, 0]])
        line = [(1, SIXTY), (1, 3), pair(1 - value((1, SIXTY)) - value((1, 3)))]
        self.assertEqual(sums(table, 0, line), [(1, 3), pair(value((1, 3)) + value((1, SIXTY))), (1, 1)])

    def test_every_beginning_and_the_last_is_1(self):
        chance = random.Random(10)
        for table in many_tables(10, 120):
            shares = some_shares(chance, table[0], len(table[1]))
            for asker in range(len(shares)):
                order = full(table, asker)
                told = sums(table, asker, shares[asker])
                self.assertEqual(told[-1], (1, 1))
                self.assertEqual(told, [pair(sum(value(shares[asker][one]) for one in order[:length]))
                                        for length in range(1, len(order) + 1)])

    def test_lists(self):
        check_own_lists(self, sums, ([1, 1], [[1, 0]]), 0, row("1/2 1/4 1/4"))


class AsGoodTest(unittest.TestCase):
    def told(self, answer, table, asker, one, other):
        handed = copy.deepcopy((table, asker, one, other))
        self.assertIs(as_good(*handed), answer)
        self.assertEqual(handed, (table, asker, one, other))

    def test_itself(self):
        for line in (row("1/2 1/6 1/4 1/12"), row("0 0 0 1"), row("1 0 0 0")):
            for asker in range(3):
                self.told(True, TABLE, asker, line, line)

    def test_a_better_one(self):
        # Asker 0 has 2 0 3 1: each row is better than those behind it.
        better = [row("0 0 1 0"), row("1/2 0 1/2 0"), row("1 0 0 0"), row("0 0 0 1"), row("0 1/2 0 1/2"),
                  row("0 1 0 0")]
        for place, one in enumerate(better):
            for other in better[place + 1:]:
                self.told(True, TABLE, 0, one, other)
                self.told(False, TABLE, 0, other, one)

    def test_neither(self):
        self.told(False, TABLE, 0, row("0 0 1/2 1/2"), row("1 0 0 0"))
        self.told(False, TABLE, 0, row("1 0 0 0"), row("0 0 1/2 1/2"))
        self.told(False, TABLE, 2, row("1/2 0 1/2 0"), row("0 1 0 0"))
        self.told(False, TABLE, 2, row("0 1 0 0"), row("1/2 0 1/2 0"))

    def test_the_least_that_is_less(self):
        much = pair(1 - value((1, SIXTY)))
        self.told(True, TABLE, 2, [(1, 1), (0, 1), (0, 1), (0, 1)], [much, (1, SIXTY), (0, 1), (0, 1)])
        self.told(False, TABLE, 2, [much, (1, SIXTY), (0, 1), (0, 1)], [(1, 1), (0, 1), (0, 1), (0, 1)])

    def test_many(self):
        chance = random.Random(11)
        for table in many_tables(11, 150):
            shares = some_shares(chance, table[0], len(table[1]))
            for asker in range(len(shares)):
                for one in shares:
                    for other in shares:
                        told = as_good(table, asker, one, other)
                        self.assertIs(told, at_least_as_good(table, asker, one, other))
                        if one != other and told:
                            self.assertIs(as_good(table, asker, other, one), False)


if __name__ == "__main__":
    unittest.main()
