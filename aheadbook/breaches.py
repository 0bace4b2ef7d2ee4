"""Breaches: rings that have three lets in a row and lack one; a fair book has none."""

from aheadbook.errors import NoBreach, Unfair
from aheadbook.kinds import copied, is_number, rest_of
from aheadbook.rings import is_ring, marks_of, ring_lets, ring_orders, rings


def breaches(book):
    """Of each ring that has any the breach with the least start, rising."""
    # A dict tells much faster than the book, which first has to see that what it is asked is a let.
    held = {let: True for let in book.lets()}
    found = []
    for three, ahead in rings(book.hands()):
        told = [let in held for let in ring_lets(three, ahead)]
        found.extend([(three, ahead, start, in_a_row(told, start)) for start in starts_in(told)[:1]])
    return found


def starts_in(told):
    """The numbers from which on a ring with these marks has three lets in a row, but not all six."""
    if all(told):
        return []
    return [start for start in range(6) if in_a_row(told, start) >= 3]


def in_a_row(told, start):
    """How many lets a ring with these marks, not all six, has in a row, round and round, from this number on."""
    count = 0
    while told[(start + count) % 6]:
        count = count + 1
    return count


def is_fair(book):
    """Whether no ring has a breach."""
    return not breaches(book)


def check_fair(book):
    """Refuses a book that is not fair."""
    found = breaches(book)
    if found:
        raise Unfair(found[0])


def is_breach(book, thing):
    """Whether it is a breach of the book, with any start that fits."""
    if not isinstance(thing, tuple) or len(thing) != 4:
        return False
    three, ahead, start, no = thing
    if not is_ring(book.hands(), three, ahead) or not is_number(start) or not is_number(no):
        return False
    told = marks_of(book, three, ahead)
    return start in starts_in(told) and no == in_a_row(told, start)


def shown(book, breach):
    """A row, a let way from it, and a row one change further on, which the book does not let."""
    if not is_breach(book, breach):
        raise NoBreach(copied(breach))
    three, ahead, start, no = breach
    orders = ring_orders(three)
    behind = tuple(sorted(rest_of(book.hands(), three + ahead)))
    row = ahead + orders[start] + behind
    # The orders change by turns at the first and at the second place of the three.
    way = tuple([len(ahead) + (start + k) % 2 for k in range(no)])
    other = ahead + orders[(start + no + 1) % 6] + behind
    return (row, way, other)
