import random
import string
import unittest

from helper import check_own_lists, many_tables
from lotmeal.errors import Double, LotError, NoAsker, NoName, NoNumber, NoText, TooGreat, Twice
from lotmeal.texts import read_table, written

PAIRS = [
    ("things cake 2 pie 1\nann pie cake\nbob", (["cake", "pie"], ["ann", "bob"], ([2, 1], [[1, 0], []]))),
    ("things\nann", ([], ["ann"], ([], [[]]))),
    ("things\nthings\na\nz", ([], ["things", "a", "z"], ([], [[], [], []]))),
    ("things things 3\nthings things\ncake", (["things"], ["things", "cake"], ([3], [[0], []]))),
    ("things a 0 z 9 abcdefgh 5\nzzzzzzzz abcdefgh a\nx z", (["a", "z", "abcdefgh"], ["zzzzzzzz", "x"],
                                                           ([0, 9, 5], [[2, 0], [1]]))),
    ("things a 1 b 1 c 1 d 1 e 1 f 1\na f e d c b a\nb\nc c\nd\ne\nf a f", (
        list("abcdef"), list("abcdef"), ([1] * 6, [[5, 4, 3, 2, 1, 0], [], [2], [], [], [0, 5]]))),
]
BAD_NAMES = ("A", "aB", "a1", "1", "-", "a-b", "a_b", "abcdefghi", "a" * 100, "\u00e4", "\u00e0b", "a\t", "\ta", "a.",
             "a;", "a\r", "\u0430", "a\u0301", "\x00", "\ufeffa", "a\u00a0b", "\ud800", "\uff41")
BAD_COUNTS = ("", "00", "01", "-1", "+1", "1.0", "1/1", "a", "1a", "1000000000", "0000000000", "9" * 100, "9" * 5000,
              "\u0661", "\uff11", "\u00b2", "1\t", "1\r", "1_0", "0x1", "-0", "-")


class WrittenTest(unittest.TestCase):
    def test_pairs(self):
        for text, table in PAIRS:
            with self.subTest(text=text):
                self.assertEqual(written(*table), text)
                told = read_table(text)
                self.assertEqual(told, table)
                self.assertEqual([type(part) for part in told], [list, list, tuple])

    def test_written_and_read_again(self):
        chance = random.Random(82)
        for table in many_tables(82, 150):
            names = set()
            while len(names) < 12:
                names.add("".join(chance.choice(string.ascii_lowercase) for sign in range(chance.randint(1, 8))))
            names = sorted(names)
            chance.shuffle(names)
            things = names[:len(table[0])]
            askers = chance.sample(names, len(table[1]))
            text = written(things, askers, table)
            self.assertEqual(read_table(text), (things, askers, table))
            self.assertEqual(written(*read_table(text)), text)

    def test_lists(self):
        check_own_lists(self, read_table, PAIRS[0][0])
        check_own_lists(self, written, ["cake", "pie"], ["ann", "bob"], ([2, 1], [[1, 0], []]))


class RefusedTest(unittest.TestCase):
    def refused(self, refusal, text, asker=None):
        with self.subTest(text=text if not isinstance(text, str) else text[:80]):
            with self.assertRaises(LotError) as taken:
                read_table(text)
            self.assertIs(type(taken.exception), refusal)
            if asker is not None:
                self.assertEqual(taken.exception.asker, asker)

    def test_no_text(self):
        for one in (None, 1, True, [], ["things", "ann"], ("things",), {}, b"things\nann"):
            self.refused(NoText, one)

    def test_the_first_line(self):
        for text in ("", "\n", " ", "\nthings\nann", "thing\nann", "thingss\nann", "Things\nann", "ann\nthings",
                     "things \nann", " things\nann", "things  \nann", "things a\nann", "things a 1 b\nann",
                     "things 1 a\nann", "things 1\nann", "things a  1\nann", "things  a 1\nann", "things a 1 \nann",
                     "things a 1  b 1\nann", "things a b\nann", "things a 1 2\nann", "things a a 1\nann",
                     "things\ta\t1\nann", "things a 1\r\nann", "things,a,1\nann", "things;ann", "things\rann"):
            self.refused(NoText, text)

    def test_names_and_counts(self):
        for name in BAD_NAMES:
            self.refused(NoText, "things " + name + " 1\nann")
            self.refused(NoText, "things b 1\n" + name)
            self.refused(NoText, "things b 1\nann b\nbob b " + name)
        for count in BAD_COUNTS:
            self.refused(NoText, "things a " + count + "\nann")
            self.refused(NoText, "things b 1 a " + count + "\nann")

    def test_later_lines(self):
        for line in ("", " ", "ann ", " ann", "ann  a", "ann a ", "ann a  b", "ann 1", "ann a 1", "Ann", "ann\ta"):
            self.refused(NoText, "things a 1 b 1\n" + line)
            self.refused(NoText, "things a 1 b 1\n" + line + "\nbob")
            self.refused(NoText, "things a 1 b 1\nbob b\n" + line)
        self.refused(NoText, "things a 1\nann a\n")
        self.refused(NoText, "things a 1\n\nann a")
        self.refused(NoText, "things a 1\n")

    def test_no_name(self):
        self.refused(NoName, "things a 1\nann b")
        self.refused(NoName, "things a 1\nann a\nbob a b")
        self.refused(NoName, "things\nann things")
        self.refused(NoName, "things\nann\nbob ann")

    def test_double(self):
        self.refused(Double, "things a 1 a 1\nann")
        self.refused(Double, "things a 1 b 2 a 3\nann a")
        self.refused(Double, "things a 1\nann\nbob\nann a")
        self.refused(Double, "things\nthings\nthings")

    def test_what_a_table_refuses(self):
        self.refused(TooGreat, "things a 1 b 1 c 1 d 1 e 1 f 1 g 1\nann")
        self.refused(TooGreat, "things\na\nb\nc\nd\ne\nf\ng")
        self.refused(NoAsker, "things")
        self.refused(NoAsker, "things a 1 b 0")
        self.refused(NoNumber, "things a 10\nann")
        self.refused(NoNumber, "things a 1 b 999999999\nann")
        self.refused(NoNumber, "things a 100000000\nann")
        self.refused(Twice, "things a 1\nann\nbob a a\ncid a a", 1)

    def test_the_first_that_is_due(self):
        seven = "things a 1 b 1 c 1 d 1 e 1 f 1 g 1"
        # What is not written so comes ahead of all, in whichever line.
        self.refused(NoText, seven + " a 1\nann x\nann\nB")
        self.refused(NoText, "things a 10 a 10\nann x\nann a a\n")
        self.refused(NoText, "things a 1000000000 a 1\nann x")
        # Then a thing that there is not, in whichever line.
        self.refused(NoName, seven + " a 10\nann a a\nann x")
        self.refused(NoName, "things a 1\nann a a\nann\nbob x")
        # Then two alike.
        self.refused(Double, seven + " a 10\nann a a")
        self.refused(Double, "things a 10 a 10")
        self.refused(Double, "things a 10\nann a a\nann")
        self.refused(Double, "things\na\nb\nc\nd\ne\nf\na")
        # Then as a table refuses.
        self.refused(TooGreat, seven)
        self.refused(TooGreat, "things a 10 b 1 c 1 d 1 e 1 f 1 g 1\nann a a")
        self.refused(NoAsker, "things a 10")
        self.refused(NoNumber, "things a 10\nann a a")


if __name__ == "__main__":
    unittest.main()
