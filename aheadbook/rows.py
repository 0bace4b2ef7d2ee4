"""Rows of hands, what stands otherwise in two of them, and the change of two neighbours."""

from aheadbook.errors import NoPlace, NoRow
from aheadbook.kinds import are_hands, copied, is_number


def is_row(hands, thing):
    """Whether it is a row of these hands: a tuple of all of them, each once."""
    if not isinstance(thing, tuple) or len(thing) != len(hands):
        return False
    return all([hand in thing for hand in hands])


def check_rows(rows):
    """Refuses the first that is no row, or a row of other hands than the first."""
    first = rows[0]
    if not are_hands(first):
        raise NoRow(copied(first))
    # The first one, too: a list of hands is no row of them.
    for row in rows:
        if not is_row(first, row):
            raise NoRow(copied(row))


def check_place(row, place):
    """Refuses what is no place of a change in the row."""
    if not is_number(place) or not 0 <= place < len(row) - 1:
        raise NoPlace(copied(place))


def turned(one, other):
    """The pairs (a, b), a ahead of b in the first row and not in the second, rising."""
    check_rows((one, other))
    return turned_pairs(one, other)


def turned_pairs(one, other):
    """The same of what surely are rows of the same hands."""
    spots = {hand: k for k, hand in enumerate(other)}
    pairs = [(a, b) for k, a in enumerate(one) for b in one[k + 1:] if spots[b] < spots[a]]
    return sorted(pairs)


def let_at(row, place):
    """The let that the change at this place wants."""
    check_rows((row,))
    check_place(row, place)
    p, q = sorted(row[place:place + 2])
    return (p, q, tuple(sorted(row[:place])))


def changed(row, place):
    """The row behind the change at this place."""
    check_rows((row,))
    check_place(row, place)
    return exchanged(row, place)


def exchanged(row, place):
    """The same of what surely are a row and a place of it."""
    return row[:place] + (row[place + 1], row[place]) + row[place + 2:]
