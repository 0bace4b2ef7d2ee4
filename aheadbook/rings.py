"""Rings: the six orders of three hands behind a set, and the lets that lead from each to the next."""

from aheadbook.errors import NoRing
from aheadbook.kinds import copied, is_set, rest_of, sets_of, united


def rings(hands):
    """All rings of the hands, tuples (three, ahead), rising."""
    found = []
    for three in sets_of(hands):
        if len(three) == 3:
            found.extend([(three, ahead) for ahead in sets_of(rest_of(hands, three))])
    return found


def ring_lets(three, ahead):
    """The six lets of the ring, in their order."""
    i, j, m = three
    return [
        (i, j, ahead),
        (i, m, united(ahead, (j,))),
        (j, m, ahead),
        (i, j, united(ahead, (m,))),
        (i, m, ahead),
        (j, m, united(ahead, (i,))),
    ]


def ring_orders(three):
    """The six orders of the three: each let leads from its own to the next one, round and round."""
    i, j, m = three
    return [(i, j, m), (j, i, m), (j, m, i), (m, j, i), (m, i, j), (i, m, j)]


def marks(book, three, ahead):
    """Of each let of the ring whether the book has it."""
    if not is_ring(book.hands(), three, ahead):
        raise NoRing((copied(three), copied(ahead)))
    return marks_of(book, three, ahead)


def marks_of(book, three, ahead):
    """The same of what surely is a ring of the book's hands."""
    return tuple([book.has(let) for let in ring_lets(three, ahead)])


def is_ring(hands, three, ahead):
    """Whether these are a set of three of the hands and a set of others."""
    return is_set(hands, three) and len(three) == 3 and is_set(rest_of(hands, three), ahead)
