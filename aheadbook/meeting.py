"""Two books of the same hands: what both let, and what follows from what either lets."""

from aheadbook.books import book_by
from aheadbook.errors import Unlike
from aheadbook.ringtables import followed


def met(one, other):
    """The book of the lets that both have."""
    check_alike(one, other)
    return book_by(one.hands(), [[a & b for a, b in zip(row, second)] for row, second in tables_of(one, other)])


def joined(one, other):
    """The least fair book that has the lets of either."""
    check_alike(one, other)
    either = [[a | b for a, b in zip(row, second)] for row, second in tables_of(one, other)]
    return book_by(one.hands(), followed(either)[0])


def within(one, other):
    """Whether each let of the one is the other's."""
    check_alike(one, other)
    return not any([a & ~b for row, second in tables_of(one, other) for a, b in zip(row, second)])


def tables_of(one, other):
    """Each row of the one's table, with the same row of the other's."""
    return list(zip(one.table(), other.table()))


def check_alike(one, other):
    """Refuses two things of other hands."""
    if one.hands() != other.hands():
        raise Unlike()
