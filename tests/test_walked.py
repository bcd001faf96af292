import copy
import random
import unittest

from helper import check_own_lists, many_tables, pair, row, value
from lotmeal.meal import meal
from lotmeal.walked import ends, is_meal

TABLE = ([1, 1, 1, 0, 9, 1], [[0, 1], [0, 1], [0, 2, 5], [2, 3, 5], [4], []])


def step(length, eaten, ended):
    return (pair(length), eaten, ended)


STEPS = [step("1/3", [0, 0, 0, 2, 4, 6], [0]), step("1/3", [1, 1, 2, 2, 4, 6], [2]),
         step("1/6", [1, 1, 5, 5, 4, 6], [1]), step("1/6", [6, 6, 5, 5, 4, 6], [])]


class EndsTest(unittest.TestCase):
    def test_by_hand(self):
        self.assertEqual(ends(TABLE), row("1/3 5/6 2/3 0") + [None, None])
        self.assertEqual(ends(([], [[]])), [])
        self.assertEqual(ends(([0], [[]])), [(0, 1)])
        self.assertEqual(ends(([1], [[]])), [None])
        self.assertEqual(ends(([1, 1], [[1]])), [None, (1, 1)])
        self.assertEqual(ends(([1, 5, 0, 2], [[0, 1]] * 6)), [(1, 6), (1, 1), (0, 1), None])
        self.assertEqual(ends(([1, 1, 1], [[0, 2], [0], [1, 2], [1]])), row("1/2 1/2 1"))

    def test_many_tables(self):
        for table in many_tables(15, 250):
            steps, shares = meal(table)
            told = ends(table)
            self.assertEqual(len(told), len(table[0]))
            for thing, end in enumerate(told):
                eaten = sum(value(line[thing]) for line in shares)
                self.assertIs(end is None, eaten < table[0][thing])
                if end is not None:
                    before = [time for time, ended in self.times(steps) if thing in ended]
                    self.assertEqual(value(end), before[0] if table[0][thing] else 0)

    def times(self, steps):
        now = 0
        for length, eaten, ended in steps:
            now += value(length)
            yield now, ended

    def test_lists(self):
        for table in many_tables(16, 40):
            check_own_lists(self, ends, table)


class IsMealTest(unittest.TestCase):
    def told(self, answer, table, steps):
        handed = copy.deepcopy((table, steps))
        with self.subTest(table=table, steps=steps):
            self.assertIs(is_meal(*handed), answer)
            self.assertEqual(handed, (table, steps))

    def changed(self, place, length=None, eaten=None, ended=None):
        steps = copy.deepcopy(STEPS)
        old = steps[place]
        steps[place] = (old[0] if length is None else pair(length), old[1] if eaten is None else eaten,
                        old[2] if ended is None else ended)
        return steps

    def test_the_meal_s_own(self):
        self.told(True, TABLE, STEPS)
        self.told(True, ([], [[], []]), [step("1", [0, 0], [])])
        for table in many_tables(17, 200):
            self.told(True, table, meal(table)[0])

    def test_other_steps(self):
        self.told(False, TABLE, [])
        self.told(False, ([], [[]]), [])
        for place in range(4):
            self.told(False, TABLE, STEPS[:place] + STEPS[place + 1:])
            self.told(False, TABLE, STEPS[:place] + [step("0", STEPS[place][1], [])] + STEPS[place:])
        self.told(False, TABLE, STEPS + [step("0", [6] * 6, [])])
        self.told(False, TABLE, STEPS + [step("1/6", [6, 6, 5, 5, 4, 6], [5])])
        self.told(False, TABLE, STEPS + [STEPS[-1]])
        self.told(False, TABLE, STEPS[1:2] + STEPS[:1] + STEPS[2:])

    def test_a_step_cut_in_two(self):
        self.told(False, TABLE, [step("1/6", STEPS[0][1], []), step("1/6", STEPS[0][1], [0])] + STEPS[1:])
        self.told(False, TABLE, STEPS[:3] + [step("1/12", STEPS[3][1], []), step("1/12", STEPS[3][1], [])])

    def test_other_lengths(self):
        for place in range(4):
            for length in ("1/4", "1/5", "1/7", "1/2", "0", "-1/3", "1"):
                self.told(False, TABLE, self.changed(place, length=length))
        self.told(False, TABLE, STEPS[:3] + [step("1/3", STEPS[3][1], [5])])

    def test_something_else_eaten(self):
        for place in range(4):
            for asker in range(6):
                for one in range(7):
                    eaten = list(STEPS[place][1])
                    eaten[asker] = one
                    self.told(eaten == STEPS[place][1], TABLE, self.changed(place, eaten=eaten))

    def test_eaten_too_long_or_too_short(self):
        for place in range(4):
            self.told(False, TABLE, self.changed(place, eaten=STEPS[place][1] + [6]))
            self.told(False, TABLE, self.changed(place, eaten=STEPS[place][1][:-1]))
            self.told(False, TABLE, self.changed(place, eaten=[]))

    def test_something_else_ended(self):
        for place in range(4):
            for ended in ([], [0], [1], [2], [3], [4], [5], [6], [0, 1], [0, 3], [0, 0], [2, 3], [1, 3], [-1]):
                self.told(ended == STEPS[place][2], TABLE, self.changed(place, ended=ended))

    def test_ended_not_sorted(self):
        table = ([1, 1], [[0], [1]])
        self.told(True, table, [step("1", [0, 1], [0, 1])])
        self.told(False, table, [step("1", [0, 1], [1, 0])])
        self.told(False, table, [step("1", [0, 1], [0])])
        self.told(False, table, [step("1", [0, 1], [])])
        self.told(False, table, [step("1", [0, 1], [0, 1, 2])])

    def test_a_thing_of_count_0_does_not_end(self):
        table = ([1, 0], [[1, 0]])
        self.told(True, table, [step("1", [0], [0])])
        self.told(False, table, [step("1", [0], [0, 1])])

    def test_of_many_tables_steps_changed_by_chance(self):
        chance = random.Random(18)
        for table in many_tables(18, 150):
            steps = copy.deepcopy(meal(table)[0])
            length, eaten, ended = steps[-1]
            eaten[chance.randrange(len(eaten))] += 1
            self.told(False, table, steps)

    def test_steps_of_another_table(self):
        tables = many_tables(19, 30, askers=3, things=2)
        for one in tables:
            for other in tables:
                self.told(meal(one)[0] == meal(other)[0], one, meal(other)[0])


if __name__ == "__main__":
    unittest.main()
