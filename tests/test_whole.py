"""What is promised over the whole program, of many tables."""

import copy
import unittest
from fractions import Fraction

from helper import at_least_as_good, check_judged, full, many_tables, value
from lotmeal.better import bettered
from lotmeal.envy import envy
from lotmeal.judged import judged
from lotmeal.lies import all_orders, told_otherwise
from lotmeal.meal import meal
from lotmeal.mixes import mix_of, shares_of
from lotmeal.tables import is_shares, table_of
from lotmeal.tickets import deal_at, tickets
from lotmeal.turns import turn_mix, turn_shares
from lotmeal.walked import ends, is_meal


class WholeTest(unittest.TestCase):
    def test_the_meal(self):
        for table in many_tables(90, 300):
            before = copy.deepcopy(table)
            self.assertEqual(table_of(*table), table)
            steps, shares = meal(table)
            self.assertTrue(is_meal(table, steps))
            self.assertTrue(is_shares(table, shares))
            self.assertEqual(envy(table, shares), [])
            for asker in range(len(shares)):
                for other in range(len(shares)):
                    self.assertTrue(at_least_as_good(table, asker, shares[asker], shares[other]))
            self.assertEqual(check_judged(self, table, shares, judged(table, shares)), "good")
            self.assertIsNone(bettered(table, shares))
            self.assertEqual(len(ends(table)), len(table[0]))
            self.assertEqual(table, before)

    def test_each_share_is_dealt_by_just_so_many_tickets(self):
        for table in many_tables(91, 150):
            shares = meal(table)[1]
            mix = mix_of(table[0], shares)
            self.assertEqual(shares_of(table[0], mix), shares)
            many = tickets(mix)
            if many <= 1000:
                drawn = [deal_at(mix, number) for number in range(many)]
                for asker, line in enumerate(shares):
                    for one, share in enumerate(line):
                        often = len([deal for deal in drawn if deal[asker] == one])
                        self.assertEqual(Fraction(often, many), value(share))

    def test_shares_by_turns_are_a_mix_too(self):
        for table in many_tables(92, 40, askers=4):
            shares = turn_shares(table)
            self.assertTrue(is_shares(table, shares))
            self.assertEqual(shares_of(table[0], turn_mix(table)), shares)
            self.assertEqual(shares_of(table[0], mix_of(table[0], shares)), shares)
            if check_judged(self, table, shares, judged(table, shares)) != "good":
                better = bettered(table, shares)
                for asker, line in enumerate(better):
                    self.assertTrue(at_least_as_good(table, asker, line, shares[asker]))
                self.assertNotEqual(better, shares)

    def test_whoever_tells_another_order_at_the_meal(self):
        for table in many_tables(93, 12, things=3):
            for asker in range(len(table[1])):
                own = meal(table)[1][asker]
                for order in all_orders(3):
                    new = meal(told_otherwise(table, asker, order))[1][asker]
                    self.assertTrue(new == own or not at_least_as_good(table, asker, new, own))

    def test_whoever_tells_another_order_by_turns(self):
        for table in many_tables(94, 12, askers=3, things=3):
            for asker in range(3):
                own = turn_shares(table)[asker]
                order = full(table, asker)
                for other in all_orders(3):
                    new = turn_shares(told_otherwise(table, asker, other))[asker]
                    for length in range(1, len(order) + 1):
                        self.assertLessEqual(sum(value(new[one]) for one in order[:length]),
                                             sum(value(own[one]) for one in order[:length]))


if __name__ == "__main__":
    unittest.main()
