import itertools
import math
import random
import unittest
from fractions import Fraction

from helper import SIXTY, check_own_lists, check_shares, full, many_tables, mixed, pair, rows, value
from lotmeal.errors import NoTurns, TooGreat
from lotmeal.turns import all_turns, deal_by, turn_mix, turn_shares

TABLE = ([1, 1, 0], [[0, 1], [0], [2, 0, 1]])


def dealt(table, turns):
    """The deal by turns, with a list of what is left."""
    left = list(table[0]) + [len(turns)]
    deal = [None] * len(turns)
    for asker in turns:
        deal[asker] = [one for one in full(table, asker) if left[one] > 0][0]
        left[deal[asker]] -= 1
    return deal


class DealByTest(unittest.TestCase):
    def test_each_list_of_turns(self):
        self.assertEqual(deal_by(TABLE, [0, 1, 2]), [0, 3, 1])
        self.assertEqual(deal_by(TABLE, [0, 2, 1]), [0, 3, 1])
        self.assertEqual(deal_by(TABLE, [1, 0, 2]), [1, 0, 3])
        self.assertEqual(deal_by(TABLE, [1, 2, 0]), [3, 0, 1])
        self.assertEqual(deal_by(TABLE, [2, 0, 1]), [1, 3, 0])
        self.assertEqual(deal_by(TABLE, [2, 1, 0]), [1, 3, 0])

    def test_askers_who_take_nothing(self):
        self.assertEqual(deal_by(([], [[], []]), [1, 0]), [0, 0])
        self.assertEqual(deal_by(([5], [[], [0], []]), [2, 0, 1]), [1, 0, 1])
        self.assertEqual(deal_by(([0], [[0]]), [0]), [1])
        self.assertEqual(deal_by(([2], [[0]] * 6), [5, 4, 3, 2, 1, 0]), [1, 1, 1, 1, 0, 0])

    def test_many(self):
        chance = random.Random(38)
        for table in many_tables(38, 300):
            turns = chance.sample(range(len(table[1])), len(table[1]))
            self.assertEqual(deal_by(table, turns), dealt(table, turns))

    def test_no_turns(self):
        for turns in ([], [0], [0, 1], [0, 1, 2, 3], [0, 1, 2, 0], [0, 1, 1], [0, 0, 0], [-1, 0, 1], [0, 1, -1],
                      [0, 1, 3], [1, 2, 3], [0, 1, SIXTY], [-SIXTY, 0, 1], [SIXTY], [2, 1, 0, -1]):
            before = list(turns)
            with self.subTest(turns=turns):
                with self.assertRaises(NoTurns):
                    deal_by(TABLE, turns)
                self.assertEqual(turns, before)
        with self.assertRaises(NoTurns):
            deal_by(([], [[]]), [])
        with self.assertRaises(NoTurns):
            deal_by(([], [[]]), [1])

    def test_lists(self):
        check_own_lists(self, deal_by, ([1, 1, 0], [[0, 1], [0], [2, 0, 1]]), [2, 0, 1])


class AllTurnsTest(unittest.TestCase):
    def test_one_to_five(self):
        self.assertEqual(all_turns(1), [[0]])
        self.assertEqual(all_turns(2), [[0, 1], [1, 0]])
        self.assertEqual(all_turns(3), [[0, 1, 2], [0, 2, 1], [1, 0, 2], [1, 2, 0], [2, 0, 1], [2, 1, 0]])
        for many in range(1, 6):
            told = all_turns(many)
            self.assertEqual(told, [list(turns) for turns in itertools.permutations(range(many))])
            self.assertEqual(told, sorted(told))
            self.assertEqual(len(told), math.factorial(many))

    def test_lists(self):
        for many in range(1, 6):
            check_own_lists(self, all_turns, many)

    def test_too_great(self):
        for many in (6, 7, 100, 10 ** 9, SIXTY):
            with self.assertRaises(TooGreat):
                all_turns(many)


class TurnSharesTest(unittest.TestCase):
    def test_by_hand(self):
        self.assertEqual(turn_mix(TABLE), [((1, 3), [0, 3, 1]), ((1, 6), [1, 0, 3]), ((1, 3), [1, 3, 0]),
                                           ((1, 6), [3, 0, 1])])
        self.assertEqual(turn_shares(TABLE), rows("1/3 1/2 0 1/6", "1/3 0 0 2/3", "1/3 1/2 0 1/6"))
        self.assertEqual(turn_mix(([], [[]])), [((1, 1), [0])])
        self.assertEqual(turn_shares(([], [[], []])), rows("1", "1"))
        self.assertEqual(turn_mix(([1], [[0]] * 5)), [((1, 5), [0 if asker == first else 1 for asker in range(5)])
                                                      for first in range(5)])

    def test_many(self):
        for askers in range(1, 6):
            for table in many_tables(39 + askers, 25, askers=askers):
                lists = list(itertools.permutations(range(askers)))
                often = {}
                for turns in lists:
                    deal = tuple(dealt(table, turns))
                    often[deal] = often.get(deal, 0) + 1
                wanted = [(Fraction(often[deal], len(lists)), list(deal)) for deal in sorted(often)]
                self.assertEqual(turn_mix(table), [(pair(weight), deal) for weight, deal in wanted])
                shares = turn_shares(table)
                self.assertEqual(shares, mixed(table[0], wanted))
                check_shares(self, table, shares)
                self.assertEqual(sum(value(weight) for weight, deal in turn_mix(table)), 1)

    def test_one_order_has_one_row(self):
        met = 0
        for table in many_tables(50, 60, askers=4):
            shares = turn_shares(table)
            for one, other in itertools.combinations(range(4), 2):
                if table[1][one] == table[1][other]:
                    met += 1
                    self.assertEqual(shares[one], shares[other])
        self.assertGreater(met, 20)

    def test_too_great(self):
        for table in (([], [[]] * 6), ([1] * 6, [[0, 1, 2]] * 6)):
            with self.assertRaises(TooGreat):
                turn_shares(table)
            with self.assertRaises(TooGreat):
                turn_mix(table)

    def test_lists(self):
        for table in many_tables(51, 20, askers=3):
            check_own_lists(self, turn_shares, table)
        for table in many_tables(51, 20, askers=3):
            check_own_lists(self, turn_mix, table)


if __name__ == "__main__":
    unittest.main()
