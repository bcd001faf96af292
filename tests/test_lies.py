import copy
import itertools
import unittest

from helper import SIXTY, at_least_as_good, check_own_lists, many_tables
from lotmeal.errors import LotError, NoAsker, NoThing, TooGreat, Twice
from lotmeal.lies import all_orders, lies, told_otherwise
from lotmeal.meal import meal
from lotmeal.turns import turn_shares

TABLE = ([1, 2, 0], [[0, 1], [2], []])


class ToldOtherwiseTest(unittest.TestCase):
    def test_only_this_order_is_another(self):
        self.assertEqual(told_otherwise(TABLE, 0, [2, 1]), ([1, 2, 0], [[2, 1], [2], []]))
        self.assertEqual(told_otherwise(TABLE, 1, []), ([1, 2, 0], [[0, 1], [], []]))
        self.assertEqual(told_otherwise(TABLE, 2, [0, 1, 2]), ([1, 2, 0], [[0, 1], [2], [0, 1, 2]]))
        self.assertEqual(told_otherwise(TABLE, 0, [0, 1]), TABLE)
        self.assertEqual(TABLE, ([1, 2, 0], [[0, 1], [2], []]))

    def test_lists_of_its_own(self):
        for asker in range(3):
            check_own_lists(self, told_otherwise, copy.deepcopy(TABLE), asker, [1, 0])

    def refused(self, refusal, asker, order, field=None):
        table = copy.deepcopy(TABLE)
        with self.subTest(asker=asker, order=order):
            with self.assertRaises(LotError) as taken:
                told_otherwise(table, asker, order)
            self.assertIs(type(taken.exception), refusal)
            if field is not None:
                self.assertEqual(taken.exception.asker, field)
            self.assertEqual(table, TABLE)

    def test_no_asker(self):
        for asker in (-1, -3, 3, 4, 6, SIXTY, -SIXTY):
            for order in ([], [0], [0, 0], [7], [SIXTY, SIXTY]):
                self.refused(NoAsker, asker, order)

    def test_no_thing_and_twice(self):
        for asker in range(3):
            for number in (3, -1, SIXTY, -SIXTY):
                self.refused(NoThing, asker, [number], asker)
                self.refused(NoThing, asker, [0, 0, number], asker)
            self.refused(Twice, asker, [0, 1, 0], asker)


class AllOrdersTest(unittest.TestCase):
    def test_0_to_4(self):
        self.assertEqual(all_orders(0), [[]])
        self.assertEqual(all_orders(1), [[], [0]])
        self.assertEqual(all_orders(2), [[], [0], [1], [0, 1], [1, 0]])
        for many, length in ((0, 1), (1, 2), (2, 5), (3, 16), (4, 65)):
            told = all_orders(many)
            self.assertEqual(len(told), length)
            self.assertEqual(told, [list(order) for size in range(many + 1)
                                    for order in itertools.permutations(range(many), size)])

    def test_lists(self):
        for many in range(5):
            check_own_lists(self, all_orders, many)

    def test_too_great(self):
        for many in (5, 6, 100, SIXTY, -1, -SIXTY):
            with self.assertRaises(TooGreat):
                all_orders(many)


def word(table, asker, first, new):
    if first == new:
        return "same"
    if at_least_as_good(table, asker, first, new):
        return "worse"
    return "better" if at_least_as_good(table, asker, new, first) else "other"


class LiesTest(unittest.TestCase):
    def test_by_hand(self):
        # Two askers for one thing: whoever does not ask for it has none of it.
        self.assertEqual(lies(([1], [[0], [0]]), 0), [([], "worse"), ([0], "same")])
        self.assertEqual(lies(([1], [[], [0]]), 0), [([], "same"), ([0], "worse")])
        self.assertEqual(lies(([], [[]]), 0), [([], "same")])
        self.assertEqual(lies(([0], [[0]]), 0, "turns"), [([], "same"), ([0], "same")])

    def test_a_lie_at_the_meal_that_is_other(self):
        # The own row is 1/2 1/6 1/3; whoever takes thing 1 first has 1/4 1/2 1/4, less of the best and more in all.
        table = ([1, 1], [[0, 1], [1], [0, 1]])
        self.assertEqual(lies(table, 0), [([], "worse"), ([0], "worse"), ([1], "worse"), ([0, 1], "same"),
                                          ([1, 0], "other")])
        self.assertEqual(lies(table, 0, "turns"), [([], "worse"), ([0], "worse"), ([1], "worse"), ([0, 1], "same"),
                                                   ([1, 0], "worse")])

    def check(self, table, asker, way, told):
        def row_of(one):
            return (turn_shares(one) if way == "turns" else meal(one)[1])[asker]

        first = row_of(table)
        self.assertEqual([order for order, word in told], all_orders(len(table[0])))
        for order, told_word in told:
            self.assertIs(type(order), list)
            orders = [order if one == asker else other for one, other in enumerate(table[1])]
            self.assertEqual(told_word, word(table, asker, first, row_of((table[0], orders))))
            self.assertNotEqual(told_word, "better")
            if way == "turns":
                self.assertNotEqual(told_word, "other")

    def test_at_the_meal(self):
        words = set()
        for things in range(5):
            for table in many_tables(60 + things, 6, things=things):
                before = copy.deepcopy(table)
                for asker in range(len(table[1])):
                    told = lies(table, asker)
                    self.check(table, asker, "meal", told)
                    self.assertEqual(lies(table, asker, "meal"), told)
                    self.assertEqual(lies(table, asker, way="meal"), told)
                    words.update(word for order, word in told)
                self.assertEqual(table, before)
        self.assertEqual(words, {"same", "worse", "other"})

    def test_by_turns(self):
        words = set()
        for askers in range(1, 6):
            for things in range(4 if askers == 5 else 5):
                for table in many_tables(70 + 10 * askers + things, 1 if askers > 3 else 4, askers, things):
                    for asker in range(askers):
                        told = lies(table, asker, "turns")
                        self.check(table, asker, "turns", told)
                        words.update(word for order, word in told)
        self.assertEqual(words, {"same", "worse"})

    def test_too_great(self):
        for things in (5, 6):
            for way in ("meal", "turns"):
                with self.assertRaises(TooGreat):
                    lies(([1] * things, [[0]]), 0, way)
        with self.assertRaises(TooGreat):
            lies(([1] * 5, [[0]]), 0)
        with self.assertRaises(TooGreat):
            lies(([1], [[0]] * 6), 0, "turns")
        with self.assertRaises(TooGreat):
            lies(([], [[]] * 6), 5, way="turns")
        self.assertEqual(len(lies(([1] * 4, [[0]] * 6), 5)), 65)

    def test_no_asker(self):
        for asker in (-1, 3, SIXTY, -SIXTY):
            for way in ("meal", "turns"):
                with self.assertRaises(NoAsker):
                    lies(TABLE, asker, way)

    def test_lists(self):
        check_own_lists(self, lies, ([1, 1], [[0, 1], [0], [1]]), 0)
        check_own_lists(self, lies, ([1, 1], [[0, 1], [0], [1]]), 2, "turns")


if __name__ == "__main__":
    unittest.main()
