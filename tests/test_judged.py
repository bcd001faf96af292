import random
import unittest

from helper import (SIXTY, check_judged, check_own_lists, full, many_tables, pair, rows, some_shares, value,
                    whole_shares, whole_table)
from lotmeal.judged import judged, over_pairs
from lotmeal.meal import meal

# All want both things, and have the one that is wanted less: they could swap.
SWAP = ([1, 1], [[0, 1], [1, 0]])
CROSSED = rows("0 1 0", "1 0 0")


class OverPairsTest(unittest.TestCase):
    def test_none(self):
        self.assertEqual(over_pairs(([], [[]]), rows("1")), [])
        self.assertEqual(over_pairs(([1], [[0]]), rows("1 0")), [])
        self.assertEqual(over_pairs(([1, 1], [[], []]), rows("0 0 1", "0 0 1")), [])
        self.assertEqual(over_pairs(SWAP, rows("1 0 0", "0 1 0")), [])

    def test_with_things_and_with_nothing(self):
        self.assertEqual(over_pairs(SWAP, CROSSED), [(0, 1), (1, 0)])
        # The thing is over nothing, and nothing over a thing that is not wanted.
        self.assertEqual(over_pairs(([1], [[0]]), rows("1/2 1/2")), [(0, 1)])
        self.assertEqual(over_pairs(([1], [[]]), rows("1/2 1/2")), [(1, 0)])
        self.assertEqual(over_pairs(([1, 1], [[1]]), rows("1 0 0")), [(1, 0), (2, 0)])
        self.assertEqual(over_pairs(([0, 1], [[0, 1]]), rows("0 1 0")), [(0, 1)])
        # Things that are not wanted stand in the order of their numbers.
        self.assertEqual(over_pairs(([1, 1], [[]]), rows("0 1 0")), [(0, 1), (2, 1)])

    def test_each_pair_once(self):
        table = ([3, 3], [[0, 1], [0, 1], [0, 1]])
        self.assertEqual(over_pairs(table, rows("0 1 0", "1/2 1/2 0", "0 1 0")), [(0, 1)])
        self.assertEqual(over_pairs(table, rows("0 1 0", "0 0 1", "0 1/2 1/2")), [(0, 1), (0, 2), (1, 2)])

    def test_many(self):
        chance = random.Random(22)
        for table in many_tables(22, 200):
            shares = some_shares(chance, table[0], len(table[1]))
            wanted = set()
            for asker, line in enumerate(shares):
                order = full(table, asker)
                for a in order:
                    for b in order:
                        if order.index(a) < order.index(b) and value(line[b]) > 0:
                            wanted.add((a, b))
            self.assertEqual(over_pairs(table, shares), sorted(wanted))

    def test_lists(self):
        check_own_lists(self, over_pairs, ([1, 1], [[0, 1], [1, 0]]), rows("0 1 0", "1 0 0"))


class LeftTest(unittest.TestCase):
    def test_a_thing_is_left(self):
        self.assertEqual(judged(([2], [[0]]), rows("1/2 1/2")), ("left", 0, 0, 1))
        self.assertEqual(judged(([1, 1], [[0, 1]]), rows("0 1 0")), ("left", 0, 0, 1))
        self.assertEqual(judged(([1], [[], [0]]), rows("0 1", "999/1000 1/1000")), ("left", 1, 0, 1))

    def test_nothing_is_always_left(self):
        self.assertEqual(judged(([1], [[]]), rows("1 0")), ("left", 0, 1, 0))
        self.assertEqual(judged(([1, 1], [[0], [0]]), rows("1 0 0", "0 1/3 2/3")), ("left", 1, 2, 1))

    def test_the_least_three(self):
        # Thing 0 is full; the first asker wishes for 2, 1 and nothing instead of 3, the second for others.
        table = ([1, 1, 1, 1], [[2, 1, 0], [0, 1, 2, 3], [0]])
        self.assertEqual(judged(table, rows("0 0 0 1 0", "0 0 1 0 0", "1 0 0 0 0")), ("left", 0, 1, 3))
        self.assertEqual(judged(table, rows("0 0 1 0 0", "0 0 0 1 0", "1 0 0 0 0")), ("left", 1, 1, 3))
        self.assertEqual(judged(table, rows("0 0 1 0 0", "0 0 0 1/2 1/2", "1 0 0 0 0")), ("left", 1, 1, 3))
        self.assertEqual(judged(table, rows("0 0 1 0 0", "0 1 0 0 0", "0 0 0 1 0")), ("left", 1, 0, 1))
        self.assertEqual(judged(table, rows("0 0 1/2 1/4 1/4", "1 0 0 0 0", "0 0 0 0 1")), ("left", 0, 1, 3))
        self.assertEqual(judged(table, rows("0 1 0 0 0", "1/2 0 1/4 1/4 0", "1/2 0 0 0 1/2")), ("left", 0, 2, 1))

    def test_ahead_of_a_ring(self):
        table = ([1, 1, 1], [[0, 1], [1, 0], [2]])
        self.assertEqual(judged(table, rows("0 1 0 0", "1 0 0 0", "0 0 1/2 1/2")), ("left", 2, 2, 3))
        self.assertEqual(judged(table, rows("0 1 0 0", "1 0 0 0", "0 0 1 0"))[0], "ring")

    def test_a_count_of_0_is_full(self):
        self.assertEqual(judged(([0, 1], [[0, 1]]), rows("0 1 0"))[0], "good")
        self.assertEqual(judged(([0], [[0]]), rows("0 1")), ("good", [0, 1]))


class RingTest(unittest.TestCase):
    def test_two_rows(self):
        told = judged(SWAP, CROSSED)
        self.assertEqual(check_judged(self, SWAP, CROSSED, told), "ring")
        self.assertEqual(sorted(told[1]), [(0, 0, 1), (1, 1, 0)])

    def test_one_asker_twice_in_a_ring(self):
        table = ([1, 1, 1], [[0, 1, 2], [2, 1, 0], [1, 2, 0]])
        shares = rows("0 1/2 1/2 0", "1/2 1/2 0 0", "1/2 0 1/2 0")
        self.assertEqual(check_judged(self, table, shares, judged(table, shares)), "ring")

    def test_more_rows(self):
        for many in range(3, 7):
            # Each has what the next one would have instead of the own, in one great ring.
            orders = [[asker, (asker + 1) % many] for asker in range(many)]
            shares = [[(1, 1) if one == (asker + 1) % many else (0, 1) for one in range(many + 1)]
                      for asker in range(many)]
            table = ([1] * many, orders)
            told = judged(table, shares)
            self.assertEqual(check_judged(self, table, shares, told), "ring")
            self.assertEqual(len(told[1]), many)

    def test_behind_what_stands_in_no_ring(self):
        # Thing 2 is over others and behind none, thing 3 behind the ring of 0 and 1.
        table = ([1, 1, 1, 1], [[2, 0, 1], [2, 1, 0], [2], [0, 1, 3]])
        shares = rows("0 1 0 0 0", "1 0 0 0 0", "0 0 1 0 0", "0 0 0 1 0")
        told = judged(table, shares)
        self.assertEqual(check_judged(self, table, shares, told), "ring")
        self.assertEqual(sorted(told[1]), [(0, 0, 1), (1, 1, 0)])

    def test_great_bottoms(self):
        little = (1, SIXTY)
        much = pair(1 - value(little))
        shares = [[much, little, (0, 1)], [little, much, (0, 1)]]
        self.assertEqual(check_judged(self, SWAP, shares, judged(SWAP, shares)), "ring")


class GoodTest(unittest.TestCase):
    def test_by_hand(self):
        self.assertEqual(judged(([], [[], []]), rows("1", "1")), ("good", [0]))
        table = ([1, 1], [[0, 1], [0, 1]])
        self.assertEqual(judged(table, rows("1/2 1/2 0", "1/2 1/2 0"))[1].index(0), 0)
        self.assertEqual(check_judged(self, table, rows("1/3 2/3 0", "2/3 1/3 0"),
                                      judged(table, rows("1/3 2/3 0", "2/3 1/3 0"))), "good")

    def test_an_order_that_the_numbers_do_not_tell(self):
        table = ([1, 1, 1], [[2, 1, 0], [2, 1, 0], [2, 1, 0], [2, 1, 0]])
        self.assertEqual(judged(table, rows(*["1/4 1/4 1/4 1/4"] * 4)), ("good", [2, 1, 0, 3]))

    def test_the_meal_s(self):
        for table in many_tables(23, 400):
            shares = meal(table)[1]
            self.assertEqual(check_judged(self, table, shares, judged(table, shares)), "good")


class JudgedTest(unittest.TestCase):
    def test_many(self):
        chance = random.Random(24)
        words = {"left": 0, "ring": 0, "good": 0}
        for table in many_tables(24, 300):
            shares = some_shares(chance, table[0], len(table[1]))
            words[check_judged(self, table, shares, judged(table, shares))] += 1
        for number in range(300):
            table = whole_table(chance, chance.randint(1, 6))
            shares = whole_shares(chance, table[0])
            words[check_judged(self, table, shares, judged(table, shares))] += 1
        self.assertGreater(min(words.values()), 30)

    def test_lists(self):
        check_own_lists(self, judged, ([1, 1], [[0, 1], [1, 0]]), rows("0 1 0", "1 0 0"))
        check_own_lists(self, judged, ([1, 1], [[0, 1], [1, 0]]), rows("1 0 0", "0 1 0"))
        check_own_lists(self, judged, ([1, 1], [[0, 1], [1, 0]]), rows("1/2 0 1/2", "0 1 0"))


if __name__ == "__main__":
    unittest.main()
