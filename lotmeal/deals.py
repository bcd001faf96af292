"""Deals looked for: each asker gets one of what the asker may get, and some things must be dealt out wholly."""


def give_thing(counts, may, deal, asker, seen):
    """Give the asker a thing, others moving to another one for it; whether it can be done.

    All askers that are gone through for it are put into seen. If it cannot be done, all that they may get is dealt
    out to them, and to nobody else.
    """
    seen[asker] = True
    for thing in may[asker]:
        if deal.count(thing) < counts[thing]:
            deal[asker] = thing
            return True
        for other in [holder for holder, one in enumerate(deal) if one == thing]:
            if other not in seen and give_thing(counts, may, deal, other, seen):
                deal[asker] = thing
                return True
    return False


def deal_out(may, must, deal, thing, seen):
    """Deal a thing once more, all things of must as often as before; whether it can be done.

    All things that are gone through for it are put into seen. If it cannot be done, all askers who may get one of
    them have one of them.
    """
    seen[thing] = True
    for asker, some in enumerate(may):
        had = deal[asker]
        if thing in some and had not in seen:
            if had not in must or deal_out(may, must, deal, had, seen):
                deal[asker] = thing
                return True
    return False


def looked_for(counts, may, must):
    """A tuple (deal, paper), one of the two None."""
    nothing = len(counts)
    deal = [nothing if nothing in some else None for some in may]
    for asker in range(len(may)):
        seen = {}
        if deal[asker] is None and not give_thing(counts, may, deal, asker, seen):
            return (None, ("askers", sorted(seen)))
    for thing in must:
        while deal.count(thing) < counts[thing]:
            seen = {}
            if not deal_out(may, must, deal, thing, seen):
                return (None, ("things", sorted(seen)))
    return (deal, None)


def deal_of(counts, may, must):
    return looked_for(counts, may, must)[0]


def why_none(counts, may, must):
    return looked_for(counts, may, must)[1]
