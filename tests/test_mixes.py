import random
import unittest
from fractions import Fraction

from helper import (SIXTY, check_own_lists, many_tables, mixed, pair, row, rows, some_deal, some_shares, some_weights,
                    value, whole_shares, whole_table)
from lotmeal.errors import NoShares
from lotmeal.meal import meal
from lotmeal.mixes import mix_of, shares_of


class SharesOfTest(unittest.TestCase):
    def test_one_deal(self):
        self.assertEqual(shares_of([1, 2], [((1, 1), [1, 2, 0, 1])]), rows("0 1 0", "0 0 1", "1 0 0", "0 1 0"))

    def test_several(self):
        mix = [((1, 2), [0, 1]), ((1, 3), [1, 0]), ((1, 6), [2, 0])]
        self.assertEqual(shares_of([1, 1], mix), rows("1/2 1/3 1/6", "1/2 1/2 0"))

    def test_deals_alike(self):
        mix = [((1, 4), [0, 1]), ((1, 2), [1, 1]), ((1, 4), [0, 1])]
        self.assertEqual(shares_of([1], mix), rows("1/2 1/2", "0 1"))

    def test_nothing_dealt(self):
        self.assertEqual(shares_of([1, 0], [((1, 1), [2, 2])]), rows("0 0 1", "0 0 1"))
        self.assertEqual(shares_of([], [((1, 3), [0]), ((2, 3), [0])]), rows("1"))
        self.assertEqual(shares_of([], [((1, 1), [0, 0, 0, 0, 0, 0])]), rows(*["1"] * 6))

    def test_many(self):
        chance = random.Random(32)
        for table in many_tables(32, 150):
            weights = some_weights(chance, chance.randint(1, 6), chance.choice([6, SIXTY]))
            mix = [(weight, some_deal(chance, table[0], len(table[1]))) for weight in weights]
            told = shares_of(table[0], [(pair(weight), list(deal)) for weight, deal in mix])
            self.assertEqual(told, mixed(table[0], mix))

    def test_lists(self):
        check_own_lists(self, shares_of, [1, 1], [((1, 2), [0, 1]), ((1, 2), [1, 0])])


class MixOfTest(unittest.TestCase):
    def check(self, counts, shares):
        mix = mix_of(counts, shares)
        self.assertIs(type(mix), list)
        for weight, deal in mix:
            self.assertIs(type(weight), tuple)
            self.assertIs(type(deal), list)
            self.assertEqual(weight, pair(value(weight)))
            self.assertGreater(value(weight), 0)
            self.assertEqual(len(deal), len(shares))
            self.assertLessEqual(set(deal), set(range(len(counts) + 1)))
            for thing, count in enumerate(counts):
                self.assertLessEqual(deal.count(thing), count)
        self.assertEqual(sum(value(weight) for weight, deal in mix), 1)
        self.assertEqual(len({tuple(deal) for weight, deal in mix}), len(mix))
        above = [share for line in shares for share in line if value(share) > 0]
        self.assertLessEqual(len(mix), len(above) + len(counts))
        self.assertEqual(mixed(counts, [(value(weight), deal) for weight, deal in mix]), shares)
        self.assertEqual(shares_of(counts, mix), shares)
        self.assertEqual(mix_of(counts, shares), mix)
        return mix

    def test_one_deal(self):
        self.assertEqual(mix_of([1, 2], rows("0 1 0", "0 0 1", "1 0 0", "0 1 0")), [((1, 1), [1, 2, 0, 1])])
        self.assertEqual(mix_of([], rows("1", "1")), [((1, 1), [0, 0])])
        self.assertEqual(mix_of([0, 9], rows("0 0 1")), [((1, 1), [2])])

    def test_two_deals(self):
        mix = self.check([1, 1], rows("1/3 2/3 0", "2/3 1/3 0"))
        self.assertEqual(sorted(mix), [((1, 3), [0, 1]), ((2, 3), [1, 0])])

    def test_one_row(self):
        mix = self.check([1, 1, 1], rows("1/2 0 1/3 1/6"))
        self.assertEqual(sorted(mix), [((1, 2), [0]), ((1, 3), [2]), ((1, 6), [3])])

    def test_what_may_be_spared_comes_to_its_end(self):
        self.check([2, 2], rows("1/2 1/2 0", "1/2 1/2 0", "1/2 1/2 0"))
        self.check([3, 1], rows("3/4 0 1/4", "3/4 0 1/4", "3/4 0 1/4", "3/4 1/4 0"))
        self.check([9, 9], rows(*["5/11 6/11 0"] * 6))
        self.check([4, 3, 0], rows(*["7/11 4/11 0 0"] * 6))
        self.check([5, 5], rows(*["1/7 2/7 4/7"] * 6))

    def test_six_rows_of_six_things(self):
        self.check([1] * 6, rows(*["1/6 1/6 1/6 1/6 1/6 1/6 0"] * 6))
        self.check([1] * 6, rows(*["1/7 1/7 1/7 1/7 1/7 1/7 1/7"] * 6))
        self.check([2, 1, 1, 1, 1, 1], rows(*["2/7 1/7 1/7 1/7 1/7 1/7 0"] * 6))

    def test_the_meal_s(self):
        for table in many_tables(33, 300):
            self.check(table[0], meal(table)[1])

    def test_many(self):
        chance = random.Random(34)
        for table in many_tables(34, 300):
            self.check(table[0], some_shares(chance, table[0], len(table[1]), deals=8))
        for number in range(100):
            counts = whole_table(chance, chance.randint(1, 6))[0]
            self.check(counts, whole_shares(chance, counts, deals=8))

    def shrunk(self, chance, counts, askers, bottom):
        """Rows drawn freely, then each thing of which there is too much made less, and nothing more."""
        table = []
        for asker in range(askers):
            parts = [chance.randint(0, bottom) for one in range(len(counts) + 1)]
            parts[-1] += 1
            table.append([Fraction(part, sum(parts)) for part in parts])
        for thing, count in enumerate(counts):
            total = sum(line[thing] for line in table)
            if total > count:
                for line in table:
                    line[thing] = line[thing] * count / total
        for line in table:
            line[-1] = 1 - sum(line[:-1])
        return [[pair(share) for share in line] for line in table]

    def test_rows_of_all_sorts(self):
        chance = random.Random(35)
        for number in range(200):
            counts = [chance.choice([0, 1, 1, 2, 3]) for thing in range(chance.randint(0, 6))]
            self.check(counts, self.shrunk(chance, counts, chance.randint(1, 6), 9))

    def test_great_bottoms(self):
        chance = random.Random(36)
        self.check([1], [[(1, SIXTY), pair(1 - Fraction(1, SIXTY))], [pair(1 - Fraction(1, SIXTY)), (1, SIXTY)]])
        for number in range(15):
            counts = [chance.choice([1, 1, 2]) for thing in range(6)]
            self.check(counts, some_shares(chance, counts, 6, deals=8, bottom=SIXTY))
            self.check(counts, self.shrunk(chance, counts, 6, 10 ** 10))
        # Each row with great bottoms of its own.
        self.check([1, 1, 2], self.shrunk(chance, [1, 1, 2], 6, SIXTY))

    def test_lists(self):
        chance = random.Random(37)
        check_own_lists(self, mix_of, [1, 1], rows("1/3 2/3 0", "2/3 1/3 0"))
        for table in many_tables(37, 30):
            check_own_lists(self, mix_of, table[0], some_shares(chance, table[0], len(table[1])))


class NoSharesTest(unittest.TestCase):
    def refused(self, counts, shares):
        before = [list(line) for line in shares]
        with self.subTest(counts=counts, shares=shares):
            with self.assertRaises(NoShares):
                mix_of(counts, shares)
            self.assertEqual(shares, before)

    def test_rows(self):
        self.refused([1], [])
        self.refused([], [])
        self.refused([9], rows(*["1 0"] * 7))
        self.refused([], rows(*["1"] * 7))
        self.refused([1], rows(*["0 1"] * 30))
        self.assertEqual(mix_of([9], rows(*["1 0"] * 6)), [((1, 1), [0] * 6)])

    def test_a_row_of_another_length(self):
        for line in ("1", "", "0 0 1 0", "1/2 1/2", "0 1 0 0"):
            self.refused([1, 1], [row("0 0 1"), row(line)])
            self.refused([1, 1], [row(line), row("0 0 1")])
        self.refused([], rows("1 0"))
        self.refused([], rows(""))

    def test_a_fraction_below_0(self):
        self.refused([1, 1], rows("1/2 -1/2 1"))
        self.refused([2], rows("1/2 1/2", "2 -1"))
        self.refused([1], rows("-1/9 10/9"))

    def test_another_sum(self):
        for line in ("1/2 1/2 1/2", "0 0 0", "1/3 1/3 1/4", "0 0 2"):
            self.refused([1, 1], rows("0 0 1", line))

    def test_too_much_of_a_thing(self):
        self.refused([0], rows("1/9 8/9"))
        self.refused([1], rows("1/2 1/2", "2/3 1/3"))
        self.refused([2], rows("1 0", "1 0", "1/1000000007 1000000006/1000000007"))


if __name__ == "__main__":
    unittest.main()
