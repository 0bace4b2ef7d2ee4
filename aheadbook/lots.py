"""Lots: the rows that let ways lead to, found by going through them."""

from aheadbook.rows import check_row, exchanged, rows_of, turned_pairs, wanted


def lot(book, row):
    """All rows that let ways lead to from this one, rising."""
    check_row(book.hands(), row)
    return sorted(ways_from(book, row))


def lots(book):
    """All lots, rising."""
    seen = {}
    found = []
    # The rows rise: the first one of a lot that is met is its least.
    for row in rows_of(book.hands()):
        if row not in seen:
            found.append(sorted(ways_from(book, row)))
            for other in found[-1]:
                seen[other] = True
    return found


def fewest(book, one, other):
    """How many let changes lead from the one to the other, at least; None where none do."""
    least = nearest(book, one, other)
    if least is None:
        return None
    return len(least)


def nearest(book, one, other):
    """A way of as few let changes; None where none lead there."""
    check_row(book.hands(), one)
    check_row(book.hands(), other)
    return ways_from(book, one).get(other)


def ways_from(book, row):
    """Of each row that let ways lead to: one with the fewest changes."""
    found = {row: ()}
    layer = [row]
    while layer:
        following = []
        for earlier in layer:
            for place in let_places(book, earlier):
                later = exchanged(earlier, place)
                if later not in found:
                    found[later] = found[earlier] + (place,)
                    following.append(later)
        layer = following
    return found


def let_places(book, row):
    """The places at which a change of the row is let, rising."""
    return [place for place in range(len(row) - 1) if book.has(wanted(row, place))]


def bound(rows):
    """The pairs of which the first stands ahead of the second in each of the rows, rising."""
    pairs = turned_pairs(rows[0], tuple(reversed(rows[0])))
    for row in rows:
        pairs = [(a, b) for a, b in pairs if row.index(a) < row.index(b)]
    return pairs
