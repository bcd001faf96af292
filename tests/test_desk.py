import unittest
from unittest import mock

from helper import many_tables, rows, value
from lotmeal.desk import Desk
from lotmeal.errors import (Double, LotError, NoAsker, NoName, NoNumber, NoRow, NoTable, NoText, NoTicket, TooGreat,
                            Twice)
from lotmeal.judged import judged
from lotmeal.meal import meal
from lotmeal.mixes import mix_of
from lotmeal.texts import written
from lotmeal.tickets import deal_at, tickets
from lotmeal.turns import turn_shares

CAKE = "table things cake 2 pie 1;ann pie cake;bob pie;cid"
ROWS = ("meal", "turns", "steps", "envy ann bob", "ticket 0", "tickets", "good turns")
NO_ROWS = ("", " ", "table", "tables", "tablethings", "Table things", " table things;ann", "meal ", " meal", "meal x",
           "MEAL", "meals", "meal;", "meal\n", "turns ", "turns x", "turn", "steps ", "steps 1", "step", "envy",
           "envy ann", "envy ann ", "envy ann bob ", "envy ann bob cid", "envy  ann bob", "envys ann bob", "ticket",
           "ticket 0 ", "ticket  0", "ticket 0 0", "tickets ", "tickets 0", "good", "good ", "good meal", "good turns ",
           "good  turns", "good turn", "good Turns", "good turns x", "good turnsx", "hello", "x y z", "-", "0")


def names_of(things, numbers):
    return " ".join((things + ["-"])[number] for number in numbers)


def text_of(one):
    return str(value(one))


class DeskTest(unittest.TestCase):
    def refused(self, refusal, desk, row):
        with self.subTest(row=row):
            with self.assertRaises(LotError) as taken:
                desk.say(row)
            self.assertIs(type(taken.exception), refusal)
            return taken.exception

    def desk_with(self, row):
        desk = Desk()
        self.assertEqual(desk.say(row), "ok")
        return desk

    def test_by_hand(self):
        desk = self.desk_with(CAKE)
        # Both eat pie, until ann goes on with cake, and bob comes to nothing.
        self.assertEqual(desk.say("meal"), "ann cake 1/2 pie 1/2;bob pie 1/2;cid")
        self.assertEqual(desk.say("turns"), "ann cake 1/2 pie 1/2;bob pie 1/2;cid")
        self.assertEqual(desk.say("steps"), "1/2 pie pie -;1/2 cake - -")
        self.assertEqual(desk.say("tickets"), "2")
        self.assertEqual(sorted([desk.say("ticket 0"), desk.say("ticket 1")]), ["cake pie -", "pie - -"])
        self.assertEqual(desk.say("good turns"), "yes")
        for one in ("ann", "bob", "cid"):
            for other in ("ann", "bob", "cid"):
                self.assertEqual(desk.say("envy " + one + " " + other), "no")

    def test_no_thing_and_whole_shares(self):
        desk = self.desk_with("table things;ann;bob")
        self.assertEqual(desk.say("meal"), "ann;bob")
        self.assertEqual(desk.say("turns"), "ann;bob")
        self.assertEqual(desk.say("steps"), "1 - -")
        self.assertEqual(desk.say("tickets"), "1")
        self.assertEqual(desk.say("ticket 0"), "- -")
        self.assertEqual(desk.say("good turns"), "yes")
        desk = self.desk_with("table things b 1 a 1;things a b;b b")
        self.assertEqual(desk.say("meal"), "things a 1;b b 1")
        self.assertEqual(desk.say("steps"), "1 a b")
        self.assertEqual(desk.say("ticket 0"), "a b")
        self.assertEqual(desk.say("envy things b"), "no")

    def test_envy_yes(self):
        # No meal leads to it, so one is put in the place of the meal at which the second asker has all.
        desk = self.desk_with("table things a 1;ann a;bob a")
        with mock.patch("lotmeal.desk.meal", lambda table: ([], rows("0 1", "1 0"))):
            self.assertEqual(desk.say("envy ann bob"), "yes")
            self.assertEqual(desk.say("envy bob ann"), "no")
            self.assertEqual(desk.say("envy ann ann"), "no")
        self.assertEqual(desk.say("envy ann bob"), "no")

    def test_turns_that_are_not_good(self):
        # By turns the first two now and then have b and the last two a, and could swap.
        desk = self.desk_with("table things a 1 b 1;ann a b;bob a b;cid b a;dan b a")
        self.assertEqual(desk.say("meal"), "ann a 1/2;bob a 1/2;cid b 1/2;dan b 1/2")
        self.assertEqual(desk.say("turns"), "ann a 5/12 b 1/12;bob a 5/12 b 1/12;cid a 1/12 b 5/12;dan a 1/12 b 5/12")
        self.assertEqual(desk.say("good turns"), "no")

    def test_many_tables(self):
        words = set()
        for table in many_tables(83, 80):
            things = ["one", "two", "three", "four", "five", "six"][:len(table[0])]
            askers = ["six", "five", "things", "three", "meal", "one"][:len(table[1])]
            desk = self.desk_with("table " + written(things, askers, table).replace("\n", ";"))
            steps, shares = meal(table)
            self.assertEqual(desk.say("meal"), self.shares_text(things, askers, shares))
            self.assertEqual(desk.say("steps"), ";".join(text_of(length) + " " + names_of(things, eaten)
                                                         for length, eaten, ended in steps))
            if len(askers) < 6:
                by_turns = turn_shares(table)
                self.assertEqual(desk.say("turns"), self.shares_text(things, askers, by_turns))
                answer = "yes" if judged(table, by_turns)[0] == "good" else "no"
                self.assertEqual(desk.say("good turns"), answer)
                words.add(answer)
            else:
                self.refused(TooGreat, desk, "turns")
                self.refused(TooGreat, desk, "good turns")
            self.check_tickets(desk, things, mix_of(table[0], shares))
        self.assertEqual(words, {"yes", "no"})

    def shares_text(self, things, askers, shares):
        parts = []
        for name, line in zip(askers, shares):
            for thing, share in zip(things, line):
                name += f" {thing} {text_of(share)}" if value(share) > 0 else ""
            parts.append(name)
        return ";".join(parts)

    def check_tickets(self, desk, things, mix):
        many = tickets(mix)
        self.assertEqual(desk.say("tickets"), str(many))
        for number in sorted({0, many // 3, many // 2, many - 1}):
            told = desk.say(f"ticket {number}")
            self.assertEqual(told, names_of(things, deal_at(mix, number)))
            self.assertEqual(desk.say(f"ticket {number}"), told)
        self.assertEqual(self.refused(NoTicket, desk, f"ticket {many}").many, many)

    def test_the_tickets_deal_the_shares_of_the_meal(self):
        desk = self.desk_with("table things a 1 b 2 c 1;ann a b c;bob a c;cid b a;dan b a c;eve c")
        many = int(desk.say("tickets"))
        drawn = [desk.say(f"ticket {number}").split(" ") for number in range(many)]
        shares = meal(([1, 2, 1], [[0, 1, 2], [0, 2], [1, 0], [1, 0, 2], [2]]))[1]
        for asker, line in enumerate(shares):
            for one, share in enumerate(line):
                often = [deal[asker] for deal in drawn].count("abc-"[one])
                self.assertEqual(value(share) * many, often)

    def test_two_desks(self):
        one = self.desk_with("table things a 1;ann a;bob a")
        other = Desk()
        self.refused(NoTable, other, "meal")
        self.assertEqual(other.say("table things b 2;cid b"), "ok")
        self.assertEqual(one.say("meal"), "ann a 1/2;bob a 1/2")
        self.assertEqual(other.say("meal"), "cid b 1")
        self.assertEqual(one.say("table things;dan"), "ok")
        self.assertEqual(other.say("meal"), "cid b 1")
        self.assertEqual(one.say("meal"), "dan")

    def test_no_row(self):
        for desk in (Desk(), self.desk_with(CAKE)):
            for row in NO_ROWS:
                if row not in ("envy ann ", "envy  ann bob"):
                    self.refused(NoRow, desk, row)
            for row in (None, 0, True, [], ["meal"], b"meal", ("meal",), {}):
                self.refused(NoRow, desk, row)

    def test_no_table(self):
        desk = Desk()
        for row in ROWS + ("envy x y", "envy  ", "ticket x", "ticket ", "ticket -1"):
            self.refused(NoTable, desk, row)
        self.refused(NoText, desk, "table ")
        self.refused(NoTable, desk, "meal")

    def test_a_table_that_is_refused_leaves_the_one_before(self):
        bad = {"table ": NoText, "table  ": NoText, "table x": NoText, "table  things;ann": NoText,
               "table things;ann ": NoText, "table things; ann": NoText, "table things ;ann": NoText,
               "table things;ann;": NoText, "table things\nann": NoText, "table things;ann\nbob": NoText,
               "table things;ann x": NoName, "table things a 1 a 1;ann": Double, "table things;ann;ann": Double,
               "table things;a;b;c;d;e;f;g": TooGreat, "table things": NoAsker, "table things a 10;ann": NoNumber,
               "table things a 1;ann a a": Twice}
        desk = Desk()
        for row, refusal in bad.items():
            self.refused(refusal, desk, row)
            self.refused(NoTable, desk, "meal")
        desk = self.desk_with(CAKE)
        for row, refusal in bad.items():
            self.refused(refusal, desk, row)
            self.assertEqual(desk.say("meal"), "ann cake 1/2 pie 1/2;bob pie 1/2;cid")

    def test_no_name(self):
        desk = self.desk_with(CAKE)
        for row in ("envy ann dan", "envy dan ann", "envy x y", "envy cake pie", "envy ann cake", "envy Ann bob",
                    "envy ann ", "envy  ann", "envy  "):
            self.refused(NoName, desk, row)

    def test_numbers(self):
        desk = self.desk_with(CAKE)
        for number in ("", "x", "-1", "+1", "00", "01", "1.0", "1/2", "0x1", "1_0", "\u0661", "\uff11", "\u00b2",
                       "0\t", "0\n", "1" * 61, "1" * 5000, "0" * 61, "-0"):
            self.refused(NoText, desk, "ticket " + number)
        for number in ("2", "3", "10", "1" * 60, "9" * 60):
            self.assertEqual(self.refused(NoTicket, desk, "ticket " + number).many, 2)

    def test_too_great(self):
        desk = self.desk_with("table things a 1;a a;b a;c a;d a;e a;f a")
        self.refused(TooGreat, desk, "turns")
        self.refused(TooGreat, desk, "good turns")
        self.assertEqual(desk.say("meal"), "a a 1/6;b a 1/6;c a 1/6;d a 1/6;e a 1/6;f a 1/6")
        self.assertEqual(desk.say("tickets"), "6")

    def test_what_is_asked_changes_nothing(self):
        desk = self.desk_with(CAKE)
        first = [desk.say(row) for row in ROWS]
        self.refused(NoTicket, desk, "ticket 7")
        self.assertEqual([desk.say(row) for row in reversed(ROWS)], first[::-1])


if __name__ == "__main__":
    unittest.main()
