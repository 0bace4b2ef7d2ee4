"""Fair books told by the webs of their lots, without going through rows."""

from math import factorial

from aheadbook.books import book_by
from aheadbook.errors import Lacking, Torn, Twice
from aheadbook.kinds import rest_of, sets_at
from aheadbook.tables import also_let, empty_rows, lacking, number_of_set, ones_of
from aheadbook.webs import check_web, circle_of, knotted_hands, told_ahead


def book_of(hands, webs):
    """The fair book whose lots' webs these are."""
    ordered = tuple(sorted(hands))
    for web in webs:
        check_web(ordered, web)
    lots = [lot_by(ordered, each) for each in webs]
    check_apart(ordered, webs, lots)
    lacked = factorial(len(ordered)) - sum([count_of(lot) for lot in lots])
    if lacked:
        raise Lacking(lacked)
    inside, outside = sides_of(len(ordered), lots)
    check_not_torn(ordered, inside, outside)
    return book_by(ordered, inside)


def lot_by(hands, web):
    """The lot of the web, by places: of each hand the number of the set that the web has ahead of it."""
    return [number_of_set(hands, [a for a, b in web if b == hand]) for hand in hands]


def check_apart(hands, webs, lots):
    """Refuses webs of which some row keeps two."""
    straight = [pair_ones(hands, web) for web in webs]
    turned = [pair_ones(hands, [(b, a) for a, b in web]) for web in webs]
    for first in range(len(webs)):
        for second in range(first + 1, len(webs)):
            # Most webs have a pair turned by the other one: this is seen sooner.
            if not straight[first] & turned[second] and can_stand(lots[first], lots[second]):
                raise Twice(first, second)


def pair_ones(hands, pairs):
    """A number with a one for each of the pairs."""
    return sum([1 << (len(hands) * hands.index(a) + hands.index(b)) for a, b in pairs])


def can_stand(one, other):
    """Whether some row is of both lots."""
    left = (1 << len(one)) - 1
    while left:
        free = [place for place in ones_of(left) if not (one[place] | other[place]) & left]
        if not free:
            return False
        left = left - sum([1 << place for place in free])
    return True


def count_of(lot):
    """How many rows the lot has."""
    counts = {0: 1}
    # A set with one hand more has a greater number: all that lead to a set come ahead of it.
    for ahead in range((1 << len(lot)) - 1):
        if ahead in counts:
            for hand, before in enumerate(lot):
                if not ahead >> hand & 1 and not before & ~ahead:
                    longer = ahead | (1 << hand)
                    counts[longer] = counts.get(longer, 0) + counts[ahead]
    return counts[(1 << len(lot)) - 1]


def sides_of(many, lots):
    """The lets that lead rows within a lot, and those that lead rows from a lot into another one: rows of a table."""
    free = lacking(many)
    inside = empty_rows(many)
    outside = empty_rows(many)
    for lot in lots:
        nexts = nexts_of(free, lot)
        for q in range(many):
            for p in range(q):
                also_let(inside, p, q, nexts[p] & nexts[q])
                also_let(outside, p, q, tied_ones(nexts, p, q) | tied_ones(nexts, q, p))
    return inside, outside


def nexts_of(free, lot):
    """Of each hand: a one for each head of the lot's web behind which it can come next."""
    every = free[0] | (free[0] << 1)
    heads = every
    for hand, before in enumerate(lot):
        for other in ones_of(before):
            heads = heads & (free[hand] | (every ^ free[other]))
    return [heads & (heads >> (1 << place)) & ones for place, ones in enumerate(free)]


def tied_ones(nexts, one, other):
    """A one for each head behind which the one can come next, and the other not before it, but then."""
    return nexts[one] & (nexts[other] >> (1 << one)) & ~nexts[other]


def check_not_torn(hands, inside, outside):
    """Refuses lets that lead some rows within a lot, and others into another one."""
    sets = sets_at(hands)
    for p, one in enumerate(hands):
        for q in range(p + 1, len(hands)):
            torn = ones_of(inside[p][q] & outside[p][q])
            if torn:
                raise Torn((one, hands[q], min([sets[number] for number in torn])))


def both(hands, one, other):
    """A row that keeps both webs, or a circle of hands by pairs of the two."""
    check_web(hands, one)
    check_web(hands, other)
    pairs = {pair: True for pair in one + other}
    knotted = knotted_hands(hands, pairs)
    if knotted:
        return ("circle", circle_of(knotted, pairs))
    row = ()
    for _ in hands:
        left = sorted(rest_of(hands, row))
        row = row + ([hand for hand in left if not told_ahead(left, pairs, hand)][0],)
    return ("row", row)
