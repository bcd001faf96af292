"""The desk: it keeps a table with names, is told rows of text, and answers texts."""

from lotmeal.envy import envy
from lotmeal.errors import NoName, NoRow, NoTable, NoText
from lotmeal.figures import in_figures, is_figures, shown
from lotmeal.fractions import fraction
from lotmeal.judged import judged
from lotmeal.meal import meal
from lotmeal.mixes import mix_of
from lotmeal.texts import read_lines
from lotmeal.tickets import deal_at, tickets
from lotmeal.turns import turn_shares

NOTHING = "-"


def shares_told(kept, shares):
    parts = []
    for name, row in zip(kept[1], shares):
        words = [name]
        for thing, share in zip(kept[0], row):
            if share != fraction(0):
                words.extend([thing, shown(share)])
        parts.append(" ".join(words))
    return ";".join(parts)


def names_told(kept, numbers):
    """The names of things, or the sign of nothing."""
    names = kept[0] + [NOTHING]
    return " ".join([names[number] for number in numbers])


def asker_called(kept, name):
    if name not in kept[1]:
        raise NoName("no asker has this name")
    return kept[1].index(name)


def yes_or_no(answer):
    return "yes" if answer else "no"


def meal_mix(kept):
    return mix_of(kept[2][0], meal(kept[2])[1])


def meal_row(kept, words):
    return shares_told(kept, meal(kept[2])[1])


def turns_row(kept, words):
    return shares_told(kept, turn_shares(kept[2]))


def steps_row(kept, words):
    steps = meal(kept[2])[0]
    return ";".join([shown(length) + " " + names_told(kept, eaten) for length, eaten, ended in steps])


def envy_row(kept, words):
    asker = asker_called(kept, words[1])
    other = asker_called(kept, words[2])
    pairs = [row[:2] for row in envy(kept[2], meal(kept[2])[1])]
    return yes_or_no((asker, other) in pairs)


def ticket_row(kept, words):
    if not is_figures(words[1]):
        raise NoText("a ticket's number is not written so")
    return names_told(kept, deal_at(meal_mix(kept), int(words[1])))


def tickets_row(kept, words):
    return in_figures(tickets(meal_mix(kept)))


def good_row(kept, words):
    return yes_or_no(judged(kept[2], turn_shares(kept[2]))[0] == "good")


# How many words a row has, by its first word, and what answers it.
WORDS = {"meal": 1, "turns": 1, "steps": 1, "envy": 3, "ticket": 2, "tickets": 1, "good": 2}
ANSWERS = {"meal": meal_row, "turns": turns_row, "steps": steps_row, "envy": envy_row, "ticket": ticket_row,
           "tickets": tickets_row, "good": good_row}


def is_known(words):
    if WORDS.get(words[0], 0) != len(words):
        return False
    return words[0] != "good" or words[1] == "turns"


class Desk:
    """A desk with a table with names, or as yet none."""

    def __init__(self):
        self.kept = None

    def say(self, row):
        if not isinstance(row, str):
            raise NoRow("a desk is told texts alone")
        parts = row.partition(" ")
        if parts[0] == "table" and parts[1] != "":
            self.kept = read_lines(parts[2].split(";"))
            return "ok"
        words = row.split(" ")
        if not is_known(words):
            raise NoRow("this row is not known here")
        if self.kept is None:
            raise NoTable("there is no table yet")
        return ANSWERS[words[0]](self.kept, words)
