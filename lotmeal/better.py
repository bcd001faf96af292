"""Shares bettered, where they are not good."""

from lotmeal.fractions import bottom_of_all, fraction, parts_of
from lotmeal.judged import judged
from lotmeal.tables import first_left, full_order


class Market:
    """Each asker brings the own shares, and gets of the best that is there, until it comes to 1.

    Askers swap in rings. What nobody owns is dealt out by the first asker who still wants some, also to that asker
    for nothing; whoever wants no more leaves what is still owned to nobody. What is got has left the market, so with
    each trade something comes to its end that is not filled again without an asker leaving.

    Nobody gets what is worse than what is given for it, for that is in the market, too. Whoever gets something finds
    all that is better gone, so in what all have got nothing is left, and there is no ring.

    All is reckoned in whole parts, of which so many make 1: then nothing has to be divided.
    """

    def __init__(self, table, shares, bottom):
        # Of nothing there is enough for all.
        supply = table[0] + [len(shares)]
        self.orders = [full_order(table, asker) for asker in range(len(shares))]
        self.owned = [[parts_of(share, bottom) for share in row] for row in shares]
        self.spare = [count * bottom - sum([row[one] for row in self.owned]) for one, count in enumerate(supply)]
        self.got = [[0 for count in supply] for row in shares]
        self.wanted = [bottom for row in shares]

    def wanting(self):
        return [asker for asker, parts in enumerate(self.wanted) if parts > 0]

    def owners(self, one):
        return [asker for asker, row in enumerate(self.owned) if row[one] > 0]

    def gone(self):
        return [one for one, parts in enumerate(self.spare) if parts == 0 and self.owners(one) == []]

    def giver(self, one):
        return self.wanting()[0] if self.spare[one] > 0 else self.owners(one)[0]

    def ring(self):
        """Rows (asker, one, giver): the asker wants this one most, and its giver is the next row's asker."""
        gone = self.gone()
        rows = []
        passed = []
        asker = self.wanting()[0]
        while asker not in passed:
            one = first_left(self.orders[asker], gone)
            passed.append(asker)
            rows.append((asker, one, self.giver(one)))
            asker = rows[-1][2]
        return rows[passed.index(asker):]

    def source(self, one, giver):
        """The list from which a giver takes this one."""
        return self.spare if self.spare[one] > 0 else self.owned[giver]

    def leave(self, asker):
        self.spare = [parts + more for parts, more in zip(self.spare, self.owned[asker])]
        self.owned[asker] = [0 for parts in self.spare]

    def trade(self):
        ring = self.ring()
        parts = min([self.source(one, giver)[one] for asker, one, giver in ring])
        parts = min([parts] + [self.wanted[asker] for asker, one, giver in ring])
        for asker, one, giver in ring:
            source = self.source(one, giver)
            source[one] = source[one] - parts
            self.got[asker][one] = self.got[asker][one] + parts
            self.wanted[asker] = self.wanted[asker] - parts
        for asker, one, giver in ring:
            if self.wanted[asker] == 0:
                self.leave(asker)


def bettered(table, shares):
    if judged(table, shares)[0] == "good":
        return None
    bottom = bottom_of_all(shares)
    market = Market(table, shares, bottom)
    while market.wanting() != []:
        market.trade()
    return [[fraction(parts, bottom) for parts in row] for row in market.got]
