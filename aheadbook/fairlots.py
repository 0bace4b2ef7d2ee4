"""Lots of fair books, each told by a web, by lets alone."""

from aheadbook.breaches import check_fair
from aheadbook.errors import Parted
from aheadbook.overs import over
from aheadbook.rows import check_row


def web_at(book, row):
    """The web of the row's lot."""
    check_row(book.hands(), row)
    check_fair(book)
    return web_of(book, row)


def parted(book, one, other):
    """None where both are of one lot, else the first pair of the first one's web that the second breaks."""
    check_row(book.hands(), one)
    check_row(book.hands(), other)
    check_fair(book)
    return first_broken(web_of(book, one), other)


def way(book, one, other):
    """A shortest way from the one to the other, all let."""
    pair = parted(book, one, other)
    if pair is not None:
        raise Parted(pair)
    # Each row between keeps the web that both keep, and so is of the lot: any shortest way will do.
    return over(one, other)


def webs(book):
    """The webs of all lots, rising."""
    check_fair(book)
    table = book.table()
    many = len(table)
    lots = {(1 << many) - 1: [((), (0,) * many)]}
    # A set with one hand more has a greater number: what falls in behind it is known.
    for ahead in reversed(range((1 << many) - 1)):
        found = []
        for hand in range(many):
            if not ahead >> hand & 1:
                found.extend(lots_from(table, ahead, hand, lots[ahead | (1 << hand)]))
        lots[ahead] = found
    return webs_by(book.hands(), [before for _, before in lots[0]])


def lots_from(table, ahead, hand, lots):
    """The lots behind a set in which this hand is the least that can come next, by the lots behind both.

    A lot is told by places: one of its rows, and of each hand what its web has ahead of it.
    """
    found = []
    for tail, before in lots:
        held = held_by(table, ahead, hand, tail, before)
        # A lot comes up once for each hand that can come next: the least one of them tells it.
        if not [other for other in tail if other < hand and not before[other] and not held >> other & 1]:
            found.append(((hand,) + tail, put_ahead(before, hand, held)))
    return found


def held_by(table, ahead, hand, tail, before):
    """The hands of the tail, by places, that stay behind this one, which comes next behind the set ahead."""
    held = 0
    for other in tail:
        # Who stays behind a held one is held. Else all that it has ahead of it can go ahead of the hand,
        # and it too, where it is let behind just these.
        if before[other] & held or not table[hand][other] >> (ahead | before[other]) & 1:
            held = held | (1 << other)
    return held


def put_ahead(before, hand, held):
    """What each hand has ahead of it, when this one is ahead of the held ones, too."""
    return tuple([some | (1 << hand) if held >> place & 1 else some for place, some in enumerate(before)])


def webs_by(hands, lots):
    """The webs, rising, by what each hand has ahead of it in each lot."""
    twos = [(a, b) for a in range(len(hands)) for b in range(len(hands)) if a != b]
    # As the hands rise with their places, so do the pairs with their numbers here: numbers are sorted sooner.
    pairs = [(hands[a], hands[b]) for a, b in twos]
    found = [[k for k, (a, b) in enumerate(twos) if before[b] >> a & 1] for before in lots]
    return [tuple([pairs[k] for k in web]) for web in sorted(found)]


def first_broken(web, row):
    """The first pair of the web that the row breaks, or None."""
    for a, b in web:
        if row.index(b) < row.index(a):
            return (a, b)
    return None


def web_of(book, row):
    """The web of the row's lot in what surely is a fair book."""
    hands = book.hands()
    table = book.table()
    tail = ()
    before = (0,) * len(hands)
    ahead = (1 << len(hands)) - 1
    for hand in reversed([hands.index(name) for name in row]):
        ahead = ahead ^ (1 << hand)
        before = put_ahead(before, hand, held_by(table, ahead, hand, tail, before))
        tail = (hand,) + tail
    return webs_by(hands, [before])[0]
