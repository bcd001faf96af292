"""Tickets of a mix: of all of them just so many lead to each deal as its weight tells."""

from lotmeal.errors import NoTicket
from lotmeal.fractions import common_bottom, parts_of


def tickets(mix):
    return common_bottom([weight for weight, deal in mix])


def deal_at(mix, number):
    many = tickets(mix)
    end = 0
    for weight, deal in mix:
        end = end + parts_of(weight, many)
        if number >= 0 and number < end:
            return list(deal)
    raise NoTicket(many)
