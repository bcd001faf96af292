import random
import unittest

from helper import SIXTY, check_own_lists, many_tables, pair, some_deal, some_weights, value
from lotmeal.errors import LotError, NoTicket
from lotmeal.meal import meal
from lotmeal.mixes import mix_of
from lotmeal.tickets import deal_at, tickets

MIX = [((1, 2), [0, 1]), ((1, 3), [1, 0]), ((1, 6), [2, 2])]


class TicketsTest(unittest.TestCase):
    def test_how_many(self):
        self.assertEqual(tickets(MIX), 6)
        self.assertEqual(tickets([((1, 1), [0])]), 1)
        self.assertEqual(tickets([((1, 4), [0]), ((3, 4), [1])]), 4)
        self.assertEqual(tickets([((1, 4), [0]), ((1, 6), [1]), ((7, 12), [0])]), 12)
        self.assertEqual(tickets([((1, SIXTY), [0]), (pair(1 - value((1, SIXTY))), [1])]), SIXTY)

    def test_each_ticket(self):
        self.assertEqual([deal_at(MIX, number) for number in range(6)], [[0, 1]] * 3 + [[1, 0]] * 2 + [[2, 2]])
        self.assertEqual(deal_at([((1, 1), [])], 0), [])
        two = [((1, 4), [1, 0]), ((3, 4), [0, 1])]
        self.assertEqual([deal_at(two, number) for number in range(4)], [[1, 0]] + [[0, 1]] * 3)

    def test_deals_alike(self):
        mix = [((1, 3), [0]), ((1, 3), [1]), ((1, 3), [0])]
        self.assertEqual([deal_at(mix, number) for number in range(3)], [[0], [1], [0]])

    def test_as_many_as_the_weight_tells(self):
        for table in many_tables(80, 120):
            mix = mix_of(table[0], meal(table)[1])
            many = tickets(mix)
            if many <= 2000:
                drawn = [deal_at(mix, number) for number in range(many)]
                wanted = []
                for weight, deal in mix:
                    wanted += [deal] * int(value(weight) * many)
                self.assertEqual(drawn, wanted)

    def check_edges(self, mix):
        many = tickets(mix)
        begin = 0
        for weight, deal in mix:
            end = begin + value(weight) * many
            self.assertEqual(end.denominator, 1)
            self.assertEqual(deal_at(mix, begin), deal)
            self.assertEqual(deal_at(mix, int(end) - 1), deal)
            begin = int(end)
        self.assertEqual(begin, many)
        self.refused(mix, many)
        self.refused(mix, -1)

    def refused(self, mix, number):
        with self.assertRaises(LotError) as taken:
            deal_at(mix, number)
        self.assertIs(type(taken.exception), NoTicket)
        self.assertEqual(taken.exception.many, tickets(mix))

    def test_the_first_and_the_last_of_each_deal(self):
        chance = random.Random(81)
        self.check_edges(MIX)
        self.check_edges([((1, SIXTY), [0]), (pair(1 - value((1, SIXTY))), [1])])
        for bottom in (3, 50, 10 ** 9, SIXTY):
            for table in many_tables(81, 20):
                weights = some_weights(chance, chance.randint(1, 6), bottom)
                deals = []
                for weight in weights:
                    deals.append(some_deal(chance, table[0], len(table[1])))
                self.check_edges([(pair(weight), deal) for weight, deal in zip(weights, deals)])

    def test_no_ticket(self):
        for number in (6, 7, -1, -6, -7, SIXTY, -SIXTY, 10 ** 60 - 1, 1 - 10 ** 60):
            self.refused(MIX, number)
        self.refused([((1, 1), [0])], 1)
        self.refused([((1, 1), [0])], -1)
        great = [((1, SIXTY), [0]), (pair(1 - value((1, SIXTY))), [1])]
        self.refused(great, SIXTY)
        self.refused(great, 10 ** 60 - 1)

    def test_lists(self):
        check_own_lists(self, tickets, [((1, 2), [0, 1]), ((1, 2), [1, 0])])
        for number in range(2):
            check_own_lists(self, deal_at, [((1, 2), [0, 1]), ((1, 2), [1, 0])], number)


if __name__ == "__main__":
    unittest.main()
