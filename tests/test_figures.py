import itertools
import unittest
from fractions import Fraction

from lotmeal.errors import NoText
from lotmeal.figures import read, shown
from lotmeal.fractions import fraction, plus

SIXTY = int("1" + "0" * 58 + "7")
OTHER_SIXTY = int("9" * 60)
PAIRS = [
    ((3, 1), "3"), ((-3, 1), "-3"), ((0, 1), "0"), ((1, 1), "1"), ((-1, 1), "-1"), ((10, 1), "10"),
    ((1, 2), "1/2"), ((-1, 2), "-1/2"), ((7, 10), "7/10"), ((-100, 9), "-100/9"), ((1, 101), "1/101"),
    ((SIXTY, 1), "1" + "0" * 58 + "7"), ((-OTHER_SIXTY, 1), "-" + "9" * 60),
    ((OTHER_SIXTY, OTHER_SIXTY - 1), "9" * 60 + "/" + "9" * 59 + "8"),
    ((-1, OTHER_SIXTY), "-1/" + "9" * 60), ((-OTHER_SIXTY, 10 ** 59), "-" + "9" * 60 + "/1" + "0" * 59),
]
NO_TEXTS = (None, 3, 0, True, (1, 2), [], ["1"], b"1", 1.5, {}, Fraction(1, 2))
WRONG = (
    "", "-", "/", "-/", "/2", "1/", "-1/", "-/2",
    "00", "01", "-01", "007", "1/02", "0/2", "1/00", "03/4",
    "+1", "+0", "-+1", "+-1", "--1", "+1/2", "1-", "1+",
    "-0", "-0/2", "-0/1",
    " ", " 1", "1 ", "1 2", "1 /2", "1/ 2", "1/2 ", " 1/2", "- 1", "\t1", "1\t",
    "\n", "1\n", "\n1", "1/2\n", "1\n/2", "1/\n2", "1\r", "1/2\r\n", "1\x0b", "1\x00", "\ufeff1", "1\u00a0",
    "a", "1a", "1/a", "x/2", "1.5", "1,5", "1_0", "1/1_0", "1e3", "0x1", "0b1", "\u22121", "1\u20442", "1\\2", "1:2",
    "\u0663", "1/\u0663", "\u0967", "\uff11", "\uff11/2", "1/\uff12", "\u00b2", "1\u00b2", "\u00bd", "\u2460",
    "\u0be7", "\U0001d7d9", "\u4e00", "\ud800",
    "1/0", "0/0", "-1/0", "1/1", "5/1", "0/1", "-5/1",
    "1/-2", "-1/-2", "1/+2", "1/-1",
    "1//2", "1/2/3", "/1/2", "1/2/", "//",
    "2/4", "-2/4", "3/3", "10/5", "4/2", "0/5", "6/9",
    "1" * 61, "-" + "1" * 61, "1" + "0" * 60, "1" + "0" * 60 + "/3", "1/" + "1" * 61, "1/1" + "0" * 60,
    "1" * 61 + "/" + "1" * 60 + "2", "1" * 5000, "-" + "1" * 5000, "1/" + "1" * 5000, "0" * 5000,
)


class ShownTest(unittest.TestCase):
    def test_pairs(self):
        for one, text in PAIRS:
            with self.subTest(text=text):
                self.assertEqual(shown(one), text)

    def test_many_figures(self):
        # With noughts at all places where a long number may be parted.
        for many in range(1, 250):
            top = 10 ** many + 1
            text = "1" + "0" * (many - 1) + "1"
            self.assertEqual(shown((top, 1)), text)
            self.assertEqual(shown((-top, 10 ** many)), "-" + text + "/1" + "0" * many)

    def test_more_figures_than_python_writes_at_once(self):
        long = (10 ** 3999 + 1, 3)
        both = plus(long, (1, 10 ** 3999))
        self.assertEqual(shown(long), "1" + "0" * 3998 + "1/3")
        self.assertEqual(shown((10 ** 9000, 1)), "1" + "0" * 9000)
        self.assertEqual(shown(both).partition("/")[2], "3" + "0" * 3999)


class ReadTest(unittest.TestCase):
    def test_pairs(self):
        for one, text in PAIRS:
            with self.subTest(text=text):
                self.assertEqual(read(text), one)
                self.assertIs(type(read(text)), tuple)

    def test_what_is_shown_is_read_as_this_fraction(self):
        for top in range(-25, 26):
            for bottom in range(1, 26):
                one = fraction(top, bottom)
                self.assertEqual(read(shown(one)), one)

    def test_no_texts_are_refused(self):
        for one in NO_TEXTS:
            with self.subTest(one=one):
                with self.assertRaises(NoText):
                    read(one)

    def test_what_is_written_otherwise_is_refused(self):
        for text in WRONG:
            with self.subTest(text=text[:80]):
                with self.assertRaises(NoText):
                    read(text)

    def test_every_sign_but_the_ten_figures_is_refused(self):
        for sign in [chr(code) for code in range(0x110000)]:
            if (ord(sign) < 0x300 or sign.isnumeric() or sign.isspace()) and sign not in "0123456789":
                for text in (sign, "1" + sign, "2/3" + sign):
                    self.assertRaises(NoText, read, text)

    def test_all_short_texts(self):
        known = {}
        for top in range(-222, 2223):
            for bottom in range(1, 23):
                one = Fraction(top, bottom)
                known[str(one)] = (one.numerator, one.denominator)
        for bottom in range(23, 223):
            known[f"1/{bottom}"] = (1, bottom)
            if bottom % 2:
                known[f"2/{bottom}"] = (2, bottom)
        for many in range(5):
            for signs in itertools.product("-/ +012\n", repeat=many):
                text = "".join(signs)
                if text in known:
                    self.assertEqual(read(text), known[text])
                else:
                    self.assertRaises(NoText, read, text)


if __name__ == "__main__":
    unittest.main()
