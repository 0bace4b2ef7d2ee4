"""Lots of fair books, each told by a web, by lets alone."""

from aheadbook.breaches import check_fair
from aheadbook.errors import Parted
from aheadbook.kinds import rest_of, sets_of, united
from aheadbook.overs import over
from aheadbook.rows import check_row, exchanged, wanted


def web_at(book, row):
    """The web of the row's lot."""
    check_row(book.hands(), row)
    check_fair(book)
    return web_of(book, row)


def parted(book, one, other):
    """None where both are of one lot, else the first pair of the first one's web that the second breaks."""
    check_row(book.hands(), one)
    check_row(book.hands(), other)
    check_fair(book)
    return first_broken(web_of(book, one), other)


def way(book, one, other):
    """A shortest way from the one to the other, all let."""
    pair = parted(book, one, other)
    if pair is not None:
        raise Parted(pair)
    # Each row between keeps the web that both keep, and so is of the lot: any shortest way will do.
    return over(one, other)


def webs(book):
    """The webs of all lots, rising."""
    check_fair(book)
    hands = book.hands()
    tails = {hands: [()]}
    # Rows that are of one lot behind a set and one more hand are so behind the set, too,
    # with this hand ahead of them: one row of each lot behind the greater sets is enough.
    for members in sorted(sets_of(hands), key=len, reverse=True)[1:]:
        found = {}
        for hand in rest_of(hands, members):
            for tail in tails[united(members, (hand,))]:
                longer = (hand,) + tail
                found[web_of(book, members + longer)] = longer
        tails[members] = [found[web] for web in found]
    return sorted([web_of(book, row) for row in tails[()]])


def first_broken(web, row):
    """The first pair of the web that the row breaks, or None."""
    for a, b in web:
        if row.index(b) < row.index(a):
            return (a, b)
    return None


def web_of(book, row):
    """The web of the row's lot in what surely is a fair book."""
    pairs = []
    for hand in row:
        pairs.extend([(hand, other) for other in held_behind(book, row, hand)])
    return tuple(sorted(pairs))


def held_behind(book, row, hand):
    """The hands that stand behind this one in each row of the lot."""
    held = []
    current = row
    # Those that the hand does not hold are led ahead of it, one by one. So between it and the
    # other stand just held ones: the other is held where one of these, or the hand, stops it.
    for other in row[row.index(hand) + 1:]:
        current = brought_ahead(book, current, hand, other)
        if current.index(hand) < current.index(other):
            held.append(other)
    return held


def brought_ahead(book, row, hand, other):
    """The row when lets have led the other as far ahead as they do, at most to just ahead of the hand."""
    current = row
    place = row.index(other) - 1
    while place >= row.index(hand) and book.has(wanted(current, place)):
        current = exchanged(current, place)
        place = place - 1
    return current
