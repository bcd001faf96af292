import copy
import itertools
import random
import unittest

from helper import check_own_lists
from lotmeal.deals import deal_of, why_none


class DealsTest(unittest.TestCase):
    def is_deal(self, counts, may, must, deal):
        return (all(one in some for one, some in zip(deal, may))
                and all(deal.count(thing) <= count for thing, count in enumerate(counts))
                and all(deal.count(thing) == counts[thing] for thing in must))

    def check_paper(self, counts, may, must, paper):
        self.assertIs(type(paper), tuple)
        word, some = paper
        self.assertIs(type(some), list)
        self.assertEqual(some, sorted(set(some)))
        if word == "askers":
            self.assertLessEqual(set(some), set(range(len(may))))
            self.assertFalse(any(len(counts) in may[asker] for asker in some))
            things = {thing for asker in some for thing in may[asker]}
            self.assertGreater(len(some), sum(counts[thing] for thing in things))
        else:
            self.assertEqual(word, "things")
            self.assertLessEqual(set(some), set(must))
            askers = [asker for asker, line in enumerate(may) if set(line) & set(some)]
            self.assertGreater(sum(counts[thing] for thing in some), len(askers))

    def check(self, counts, may, must):
        """Either a deal that is gone along, or a paper that is; whether there is a deal."""
        handed = copy.deepcopy((counts, may, must))
        with self.subTest(counts=counts, may=may, must=must):
            deal = deal_of(*handed)
            paper = why_none(*handed)
            self.assertEqual(handed, (counts, may, must))
            if deal is None:
                self.check_paper(counts, may, must, paper)
            else:
                self.assertIs(type(deal), list)
                self.assertEqual(len(deal), len(may))
                self.assertTrue(self.is_deal(counts, may, must, deal), deal)
                self.assertIsNone(paper)
            return deal is not None

    def check_all(self, counts, may, must):
        found = any(self.is_deal(counts, may, must, deal) for deal in itertools.product(*may))
        self.assertIs(self.check(counts, may, must), found)
        return found

    def test_one_choice_each(self):
        self.assertEqual(deal_of([1, 2], [[0], [1], [2], [1]], []), [0, 1, 2, 1])
        self.assertEqual(deal_of([1, 2], [[0], [1], [2], [1]], [1, 0]), [0, 1, 2, 1])
        self.assertIsNone(deal_of([1, 2], [[0], [0]], []))
        self.assertEqual(why_none([1, 2], [[0], [0]], []), ("askers", [0, 1]))
        self.assertIsNone(deal_of([1, 2], [[0], [1]], [1]))
        self.assertEqual(why_none([1, 2], [[0], [1]], [1]), ("things", [1]))

    def test_others_move(self):
        self.assertEqual(deal_of([1, 1], [[0, 1], [0]], []), [1, 0])
        self.assertEqual(deal_of([1, 1, 1], [[0, 1], [0, 2], [0]], []), [1, 2, 0])
        self.assertFalse(self.check_all([1, 1, 1, 1], [[0, 1], [1, 2], [2, 3], [0], [1]], []))
        self.assertTrue(self.check_all([1, 1, 1, 1], [[0, 1], [1, 2], [2, 3], [0]], [3]))
        self.assertFalse(self.check_all([1, 1, 1, 1], [[0, 1], [1, 2], [2], [0]], [3]))

    def test_must(self):
        self.assertEqual(deal_of([1, 1], [[2, 0]], [0]), [0])
        self.assertEqual(deal_of([1, 1], [[2, 0, 1]], [1]), [1])
        self.assertIn(deal_of([1, 1, 1], [[0, 1], [0, 2, 3]], [2]), ([0, 2], [1, 2]))
        self.assertEqual(why_none([1, 1], [[2, 0, 1]], [0, 1]), ("things", [0, 1]))
        self.assertEqual(why_none([3], [[0, 1], [1], [0]], [0]), ("things", [0]))
        self.assertEqual(deal_of([2, 1], [[2, 0], [0, 1], [1, 0]], [0, 1]).count(0), 2)

    def test_must_of_a_thing_with_count_0(self):
        self.assertEqual(deal_of([0], [[1]], [0]), [1])
        self.assertEqual(deal_of([0], [[0, 1]], [0]), [1])
        self.assertEqual(deal_of([0, 1], [[0, 1]], [0, 1]), [1])
        self.assertEqual(why_none([0], [[0]], [0]), ("askers", [0]))

    def test_an_asker_who_may_get_nothing_at_all(self):
        self.assertIsNone(deal_of([3], [[0], []], []))
        self.assertEqual(why_none([3], [[0], []], []), ("askers", [1]))
        self.assertEqual(why_none([], [[]], []), ("askers", [0]))

    def test_no_thing(self):
        self.assertEqual(deal_of([], [[0]], []), [0])
        self.assertEqual(deal_of([], [[0]] * 6, []), [0] * 6)
        self.assertIsNone(why_none([], [[0]] * 6, []))

    def test_all_small_cases(self):
        # Two askers and up to two things: all that they may get, all counts up to 2, all of must.
        for things in range(3):
            numbers = range(things + 1)
            subsets = [list(some) for size in range(things + 2) for some in itertools.combinations(numbers, size)]
            musts = [list(some) for size in range(things + 1) for some in itertools.permutations(range(things), size)]
            for counts in itertools.product(range(3), repeat=things):
                for may in itertools.product(subsets, repeat=2):
                    for must in musts:
                        self.check_all(list(counts), [list(some) for some in may], must)

    def test_many_small_cases(self):
        chance = random.Random(30)
        found = {True: 0, False: 0}
        papers = {"askers": 0, "things": 0}
        for number in range(3000):
            things = chance.randint(0, 4)
            counts = [chance.choice([0, 1, 1, 2]) for thing in range(things)]
            may = [chance.sample(range(things + 1), chance.randint(0 if chance.random() < 0.1 else 1, things + 1))
                   for asker in range(chance.randint(1, 5))]
            must = chance.sample(range(things), chance.randint(0, things))
            there = self.check_all(counts, may, must)
            found[there] += 1
            if not there:
                papers[why_none(counts, may, must)[0]] += 1
        self.assertGreater(min(list(found.values()) + list(papers.values())), 200)

    def test_six_askers_and_six_things(self):
        chance = random.Random(31)
        found = {True: 0, False: 0}
        for number in range(1500):
            counts = [chance.choice([0, 1, 1, 1, 2, 9]) for thing in range(6)]
            may = [chance.sample(range(7), chance.randint(1, 4)) for asker in range(6)]
            must = [thing for thing in chance.sample(range(6), 3) if counts[thing] < 3]
            found[self.check(counts, may, must)] += 1
        self.assertGreater(min(found.values()), 200)

    def test_lists(self):
        check_own_lists(self, deal_of, [1, 1], [[0, 1], [0]], [1])
        check_own_lists(self, why_none, [1, 1], [[0], [0]], [1])
        check_own_lists(self, why_none, [1, 2], [[0], [1]], [1])


if __name__ == "__main__":
    unittest.main()
