"""Ways by a book: each change wants a let that the book has."""

from aheadbook.errors import NotLet
from aheadbook.rows import check_row, exchanged, is_place, wanted


def walked(book, row, way):
    """The rows that the way goes through, the first one among them."""
    check_row(book.hands(), row)
    rows = [row]
    for at, place in enumerate(way):
        if not is_place(rows[-1], place):
            raise NotLet(at, "place")
        if not book.has(wanted(rows[-1], place)):
            raise NotLet(at, "let")
        rows.append(exchanged(rows[-1], place))
    return rows
