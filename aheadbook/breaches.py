"""Breaches: rings that have three lets in a row and lack one; a fair book has none."""

from aheadbook.errors import NoBreach, Unfair
from aheadbook.kinds import copied, is_number, rest_of, sets_at
from aheadbook.rings import is_ring, marks_of, ring_orders
from aheadbook.ringtables import torn_rings
from aheadbook.tables import ones_of


def breaches(book):
    """Of each ring that has any the breach with the least start, rising."""
    found = []
    for ring in torn_rings(book.table()):
        found.extend(breaches_of(book.hands(), ring))
    return found


def breaches_of(hands, ring):
    """The breaches with the least starts of the rings of one three, rising."""
    places, marks, torn = ring
    three = tuple([hands[place] for place in places])
    sets = sets_at(hands)
    found = []
    for ahead, number in sorted([(sets[number], number) for number in ones_of(torn)]):
        told = [mark >> number & 1 for mark in marks]
        start = starts_in(told)[0]
        found.append((three, ahead, start, in_a_row(told, start)))
    return found


def starts_in(told):
    """The numbers from which on a ring with these marks has three lets in a row, but not all six."""
    if all(told):
        return []
    return [start for start in range(6) if in_a_row(told, start) >= 3]


def in_a_row(told, start):
    """How many lets a ring with these marks, not all six, has in a row, round and round, from this number on."""
    count = 0
    while told[(start + count) % 6]:
        count = count + 1
    return count


def is_fair(book):
    """Whether no ring has a breach."""
    return not torn_rings(book.table())


def check_fair(book):
    """Refuses a book that is not fair."""
    torn = torn_rings(book.table())
    if torn:
        raise Unfair(breaches_of(book.hands(), torn[0])[0])


def is_breach(book, thing):
    """Whether it is a breach of the book, with any start that fits."""
    if not isinstance(thing, tuple) or len(thing) != 4:
        return False
    three, ahead, start, no = thing
    if not is_ring(book.hands(), three, ahead) or not is_number(start) or not is_number(no):
        return False
    told = marks_of(book, three, ahead)
    return start in starts_in(told) and no == in_a_row(told, start)


def shown(book, breach):
    """A row, a let way from it, and a row one change further on, which the book does not let."""
    if not is_breach(book, breach):
        raise NoBreach(copied(breach))
    three, ahead, start, no = breach
    orders = ring_orders(three)
    behind = tuple(sorted(rest_of(book.hands(), three + ahead)))
    row = ahead + orders[start] + behind
    # The orders change by turns at the first and at the second place of the three.
    way = tuple([len(ahead) + (start + k) % 2 for k in range(no)])
    other = ahead + orders[(start + no + 1) % 6] + behind
    return (row, way, other)
