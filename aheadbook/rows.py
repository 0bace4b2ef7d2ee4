"""Rows of hands, what stands otherwise in two of them, and the change of two neighbours."""

from aheadbook.errors import NoPlace, NoRow
from aheadbook.kinds import are_hands, copied, is_number


def is_row(hands, thing):
    """Whether it is a row of these hands: a tuple of all of them, each once."""
    if not isinstance(thing, tuple) or len(thing) != len(hands):
        return False
    return all([hand in thing for hand in hands])


def rows_of(hands):
    """All rows of these hands, rising."""
    rows = [()]
    for _ in hands:
        rows = [row + (hand,) for row in rows for hand in sorted(hands) if hand not in row]
    return rows


def check_row(hands, row):
    """Refuses what is no row of these hands."""
    if not is_row(hands, row):
        raise NoRow(copied(row))


def check_rows(rows):
    """Refuses the first that is no row, or a row of other hands than the first."""
    first = rows[0]
    if not are_hands(first):
        raise NoRow(copied(first))
    # The first one, too: a list of hands is no row of them.
    for row in rows:
        check_row(first, row)


def is_place(row, thing):
    """Whether it is a place of a change in the row."""
    return is_number(thing) and 0 <= thing < len(row) - 1


def check_place(row, place):
    """Refuses what is no place of a change in the row."""
    if not is_place(row, place):
        raise NoPlace(copied(place))


def turned(one, other):
    """The pairs (a, b), a ahead of b in the first row and not in the second, rising."""
    check_rows((one, other))
    return turned_pairs(one, other)


def turned_pairs(one, other):
    """The same of what surely are rows of the same hands."""
    spots = {hand: k for k, hand in enumerate(other)}
    pairs = [(a, b) for k, a in enumerate(one) for b in one[k + 1:] if spots[b] < spots[a]]
    return sorted(pairs)


def let_at(row, place):
    """The let that the change at this place wants."""
    check_rows((row,))
    check_place(row, place)
    return wanted(row, place)


def wanted(row, place):
    """The same of what surely are a row and a place of it."""
    p, q = sorted(row[place:place + 2])
    return (p, q, tuple(sorted(row[:place])))


def changed(row, place):
    """The row behind the change at this place."""
    check_rows((row,))
    check_place(row, place)
    return exchanged(row, place)


def exchanged(row, place):
    """The same of what surely are a row and a place of it."""
    return row[:place] + (row[place + 1], row[place]) + row[place + 2:]
