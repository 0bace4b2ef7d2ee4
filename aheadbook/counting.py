"""Rows that keep a web: counted and numbered by its heads, without going through them."""

from aheadbook.errors import NoHand, NoNumber, NoRow
from aheadbook.heads import free_behind, heads
from aheadbook.kinds import copied, is_number, united
from aheadbook.rows import is_row
from aheadbook.webs import check_web, closed, keeps


def count_rows(hands, web):
    """How many rows keep the web."""
    return orders_behind(hands, web)[()]


def row_at(hands, web, number):
    """The row that has this number among those that keep the web, rising."""
    counts = orders_behind(hands, web)
    if not is_number(number) or not 0 <= number < counts[()]:
        raise NoNumber(copied(number))
    row = ()
    left = number
    for _ in hands:
        hand, left = step_at(hands, web, counts, row, left)
        row = row + (hand,)
    return row


def number_of(hands, web, row):
    """The number of this row among those that keep the web, rising."""
    counts = orders_behind(hands, web)
    if not is_row(hands, row) or not keeps(web, row):
        raise NoRow(copied(row))
    number = 0
    for place, hand in enumerate(row):
        head = tuple(sorted(row[:place]))
        lesser = [other for other in free_behind(hands, web, head) if other < hand]
        number = number + sum([counts[united(head, (other,))] for other in lesser])
    return number


def places_of(hands, web, hand):
    """How many of the rows that keep the web have the hand at place 0, 1 and so on."""
    behind = orders_behind(hands, web)
    check_hand(hands, hand)
    ahead = orders_ahead(hands, web)
    found = [0 for _ in hands]
    for head in ahead:
        if hand in free_behind(hands, web, head):
            place = len(head)
            found[place] = found[place] + ahead[head] * behind[united(head, (hand,))]
    return found


def count_ahead(hands, web, one, other):
    """How many of the rows that keep the web have the one ahead of the other."""
    check_web(hands, web)
    check_hand(hands, one)
    check_hand(hands, other)
    if one == other or (other, one) in web:
        return 0
    return count_rows(hands, closed(hands, web + ((one, other),)))


def check_hand(hands, thing):
    """Refuses what is none of the hands."""
    if thing not in hands:
        raise NoHand(copied(thing))


def orders_behind(hands, web):
    """Of each head of the web: in how many orders the other hands can stand behind it."""
    counts = {}
    for head in sorted(heads(hands, web), key=len, reverse=True):
        following = [counts[united(head, (hand,))] for hand in free_behind(hands, web, head)]
        # Behind all hands there is one order: of none.
        counts[head] = sum(following) if following else 1
    return counts


def orders_ahead(hands, web):
    """Of each head of the web: in how many orders its own hands can stand."""
    counts = {(): 1}
    for head in sorted(heads(hands, web), key=len):
        for hand in free_behind(hands, web, head):
            longer = united(head, (hand,))
            counts[longer] = counts.get(longer, 0) + counts[head]
    return counts


def step_at(hands, web, counts, row, number):
    """The next hand of the row with this number behind these, and its number among the rows that go on so."""
    head = tuple(sorted(row))
    nexts = free_behind(hands, web, head)
    left = number
    k = 0
    while left >= counts[united(head, (nexts[k],))]:
        left = left - counts[united(head, (nexts[k],))]
        k = k + 1
    return (nexts[k], left)
