"""Turns: the askers come one by one, and each takes the best that is left."""

from lotmeal.errors import NoTurns, TooGreat
from lotmeal.fractions import fraction
from lotmeal.mixes import shares_of
from lotmeal.tables import first_left, full_order

MOST_TURNS = 5


def deal_by(table, turns):
    counts = table[0]
    if sorted(turns) != list(range(len(table[1]))):
        raise NoTurns("a list of turns has all askers, each once")
    deal = [None for asker in turns]
    for asker in turns:
        gone = [thing for thing, count in enumerate(counts) if deal.count(thing) == count]
        deal[asker] = first_left(full_order(table, asker), gone)
    return deal


def longer(lists, many):
    """Each of the lists with each number below many that it has not put behind it."""
    told = []
    for one in lists:
        told.extend([one + [number] for number in range(many) if number not in one])
    return told


def all_turns(many):
    if many > MOST_TURNS:
        raise TooGreat("all lists of turns are told for at most five askers")
    told = [[]]
    for length in range(many):
        told = longer(told, many)
    return told


def turn_mix(table):
    lists = all_turns(len(table[1]))
    often = {}
    for turns in lists:
        deal = tuple(deal_by(table, turns))
        often[deal] = often.get(deal, 0) + 1
    return [(fraction(often[deal], len(lists)), list(deal)) for deal in sorted(often)]


def turn_shares(table):
    return shares_of(table[0], turn_mix(table))
