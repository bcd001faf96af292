import itertools
import random
import unittest

from helper import SIXTY, check_own_lists, many_tables, row, rows, some_shares
from lotmeal.errors import LotError, NoAsker, NoNumber, NoThing, TooGreat, Twice
from lotmeal.tables import full_order, is_shares, table_of

GOOD = [
    ([], [[]]), ([], [[], [], [], [], [], []]), ([0], [[]]), ([9], [[0]]), ([0, 9], [[1, 0], [0]]),
    ([1, 2, 3, 4, 5, 6], [[5, 4, 3, 2, 1, 0]]), ([0, 0, 0, 0, 0, 0], [[], [0], [1, 2], [3, 4, 5], [5], []]),
    ([1, 1, 1], [[2, 0], [2, 0], [2, 0]]), ([3, 3], [[0, 1], [1, 0], [0], [1], [], [0, 1]]),
]


class TableTest(unittest.TestCase):
    def test_a_table_is_the_two_lists(self):
        for counts, orders in GOOD:
            with self.subTest(counts=counts, orders=orders):
                table = table_of(counts, orders)
                self.assertIs(type(table), tuple)
                self.assertEqual(table, (counts, orders))
                self.assertIs(type(table[0]), list)
                self.assertEqual([type(order) for order in table[1]], [list] * len(orders))

    def test_all_counts_from_0_to_9(self):
        for count in range(10):
            self.assertEqual(table_of([count], [[0]]), ([count], [[0]]))

    def test_lists_of_its_own(self):
        for counts, orders in GOOD:
            check_own_lists(self, table_of, list(counts), [list(order) for order in orders])

    def test_one_list_handed_in_for_several_askers(self):
        order = [1, 0]
        table = table_of([1, 1], [order, order])
        order.append(7)
        table[1][0].append(8)
        self.assertEqual(table, ([1, 1], [[1, 0, 8], [1, 0]]))
        one = []
        table = table_of(one, [one, one])
        one.append(7)
        table[0].append(1)
        table[1][0].append(2)
        self.assertEqual(table, ([1], [[2], []]))

    def test_named_arguments(self):
        self.assertEqual(table_of(counts=[1], orders=[[0]]), ([1], [[0]]))


class TableRefusedTest(unittest.TestCase):
    def refused(self, refusal, counts, orders, asker=None):
        with self.subTest(counts=counts, orders=orders):
            before = (list(counts), [list(order) for order in orders])
            with self.assertRaises(LotError) as taken:
                table_of(counts, orders)
            self.assertIs(type(taken.exception), refusal)
            if asker is not None:
                self.assertEqual(taken.exception.asker, asker)
            self.assertEqual((counts, orders), before)

    def test_too_great(self):
        self.refused(TooGreat, [1] * 7, [[0]])
        self.refused(TooGreat, [1], [[0]] * 7)
        self.refused(TooGreat, [], [[]] * 7)
        self.refused(TooGreat, [1] * 30, [[]] * 30)

    def test_no_asker(self):
        self.refused(NoAsker, [], [])
        self.refused(NoAsker, [1, 2], [])

    def test_no_number(self):
        for count in (10, -1, 11, SIXTY, -SIXTY):
            self.refused(NoNumber, [count], [[]])
            self.refused(NoNumber, [0, 9, count], [[0, 1, 2]])

    def test_no_thing(self):
        for number in (2, 3, -1, -2, SIXTY, -SIXTY):
            self.refused(NoThing, [1, 1], [[number]], 0)
            self.refused(NoThing, [1, 1], [[0], [1, 0], [1, number], [], [number]], 2)
        self.refused(NoThing, [], [[], [0]], 1)
        self.refused(NoThing, [1] * 6, [[5], [0], [], [1], [2], [6]], 5)

    def test_twice(self):
        self.refused(Twice, [1], [[0, 0]], 0)
        self.refused(Twice, [1, 1, 1], [[0, 1, 2], [], [0, 1, 2, 0], [1, 1]], 2)
        self.refused(Twice, [1] * 6, [[], [], [], [], [], [5, 4, 3, 2, 1, 0, 5]], 5)

    def test_the_first_that_is_due(self):
        self.refused(TooGreat, [10] * 7, [])
        self.refused(TooGreat, [10] * 7, [[9, 9]])
        self.refused(TooGreat, [-1], [[0, 0, 5]] * 7)
        self.refused(NoAsker, [10], [])
        self.refused(NoNumber, [10], [[0, 0], [7]])
        self.refused(NoNumber, [1, SIXTY], [[-1]])
        self.refused(NoThing, [1], [[0, 0], [0], [1], [-1]], 2)
        self.refused(NoThing, [1], [[5, 5]], 0)
        self.refused(NoThing, [1, 1], [[0, 0, 1], [1, 1], [0, 0, 2]], 2)
        self.refused(Twice, [1], [[0], [0, 0], [0, 0]], 1)

    def test_all_sets_of_faults(self):
        names = (TooGreat, NoAsker, NoNumber, NoThing, Twice)
        for faults in itertools.product((False, True), repeat=5):
            great, empty, count, thing, twice = faults
            counts = [10 if count else 1, 1] + [1] * (5 if great else 0)
            orders = [] if empty else [[0, 0] if twice else [0], [len(counts)] if thing else [1]]
            due = (great, empty, count, thing and not empty, twice and not empty)
            refusals = [name for name, is_due in zip(names, due) if is_due]
            if refusals:
                self.refused(refusals[0], counts, orders, {NoThing: 1, Twice: 0}.get(refusals[0]))
            else:
                self.assertEqual(table_of(counts, orders), (counts, orders))


class FullOrderTest(unittest.TestCase):
    def test_by_hand(self):
        self.assertEqual(full_order(([], [[]]), 0), [0])
        self.assertEqual(full_order(([1], [[], [0]]), 0), [1, 0])
        self.assertEqual(full_order(([1], [[], [0]]), 1), [0, 1])
        six = ([1] * 6, [[], [3, 5, 1, 0, 2, 4], [4, 1], [0], [5]])
        self.assertEqual(full_order(six, 0), [6, 0, 1, 2, 3, 4, 5])
        self.assertEqual(full_order(six, 1), [3, 5, 1, 0, 2, 4, 6])
        self.assertEqual(full_order(six, 2), [4, 1, 6, 0, 2, 3, 5])
        self.assertEqual(full_order(six, 3), [0, 6, 1, 2, 3, 4, 5])
        self.assertEqual(full_order(six, 4), [5, 6, 0, 1, 2, 3, 4])

    def test_a_new_list_each_time(self):
        for table in many_tables(8, 60):
            for asker in range(len(table[1])):
                check_own_lists(self, full_order, (list(table[0]), [list(order) for order in table[1]]), asker)


class SharesTest(unittest.TestCase):
    table = ([1, 2], [[0, 1], [1], []])
    good = ("1/2 1/2 0", "0 1 0", "1/3 1/3 1/3")

    def told(self, answer, table, shares):
        with self.subTest(table=table, shares=shares):
            before = (list(table[0]), [list(order) for order in table[1]], [list(line) for line in shares])
            self.assertIs(is_shares(table, shares), answer)
            self.assertEqual((table[0], table[1], shares), before)

    def test_shares(self):
        self.told(True, self.table, rows(*self.good))
        self.told(True, self.table, rows("0 0 1", "0 0 1", "0 0 1"))
        self.told(True, ([1], [[0]]), rows("1/1000000007 1000000006/1000000007"))

    def test_things_that_are_full(self):
        self.told(True, self.table, rows("1/3 2/3 0", "1/3 2/3 0", "1/3 2/3 0"))
        self.told(True, self.table, rows("0 1 0", "0 1 0", "1 0 0"))
        self.told(True, ([0], [[0]]), rows("0 1"))

    def test_other_many_rows(self):
        self.told(False, self.table, rows(*self.good) + rows("0 0 1"))
        self.told(False, self.table, rows(*self.good)[:2])
        self.told(False, self.table, [])

    def test_a_row_of_another_length(self):
        for line in ("1/3 2/3", "1/3 1/3 1/3 0", "1/3 1/3 0 1/3", "1", "", "0 0 0 1"):
            self.told(False, self.table, rows("0 1 0", line, "0 0 1"))

    def test_a_fraction_below_0(self):
        self.told(False, self.table, rows("-1/3 1 1/3", "0 1 0", "0 0 1"))
        self.told(False, self.table, rows("0 0 1", "0 0 1", "1 1 -1"))
        self.told(False, self.table, rows("0 0 1", "0 -1/1000000007 1000000008/1000000007", "0 0 1"))

    def test_a_row_of_another_sum(self):
        for line in ("1/3 1/3 1/4", "1/3 1/3 1/2", "0 0 0", "0 0 2", "1/3 1/3 333333333/1000000000"):
            self.told(False, self.table, rows("0 1/2 1/2", line, "0 0 1"))

    def test_too_much_of_a_thing(self):
        self.told(False, self.table, rows("1/2 1/2 0", "1/2 1/2 0", "1/1000000007 0 1000000006/1000000007"))
        self.told(False, self.table, rows("0 1 0", "0 1 0", "0 1 0"))
        self.told(False, ([0], [[0]]), rows("1/9 8/9"))
        self.told(True, self.table, rows("0 0 1", "0 0 1", "0 0 1"))

    def test_no_thing_at_all(self):
        self.told(True, ([], [[], []]), rows("1", "1"))
        self.told(False, ([], [[], []]), rows("1", "1/2"))
        self.told(False, ([], [[], []]), rows("1", ""))
        self.told(False, ([], [[], []]), rows("1", "1 0"))
        self.told(False, ([], [[], []]), rows("1"))

    def test_many(self):
        chance = random.Random(9)
        for table in many_tables(9, 150):
            shares = some_shares(chance, table[0], len(table[1]))
            self.told(True, table, shares)
            asker = chance.randrange(len(shares))
            one = chance.randrange(len(table[0]) + 1)
            changed = [list(line) for line in shares]
            changed[asker][one] = (changed[asker][one][0] + 1, changed[asker][one][1])
            self.told(False, table, changed)

    def test_a_row_too_long_with_noughts(self):
        self.told(False, ([1], [[0]]), [row("1 0 0")])


if __name__ == "__main__":
    unittest.main()
