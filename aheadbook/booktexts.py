"""Books as texts: a row that lists the hands, then a row for each let."""

from aheadbook.books import Book
from aheadbook.errors import NoText
from aheadbook.kinds import are_hands, is_rising
from aheadbook.lets import is_let


def show_book(book):
    """The text of the book."""
    rows = [" ".join(("hands",) + book.hands())]
    rows.extend([" ".join(("let", p, q) + ahead) for p, q, ahead in book.lets()])
    return "\n".join(rows)


def read_book(text):
    """The book of which this is the text."""
    if not isinstance(text, str):
        raise NoText(0)
    rows = text.split("\n")
    hands = hands_in(rows[0])
    if hands is None:
        raise NoText(0)
    lets = []
    for k in range(1, len(rows)):
        let = let_in(hands, rows[k])
        if let is None or not is_rising(lets[-1:] + [let]):
            raise NoText(k)
        lets.append(let)
    return Book(hands, lets)


def hands_in(row):
    """The hands that this row of a text lists; None where it is none."""
    words = row.split(" ")
    hands = tuple(words[1:])
    if words[0] != "hands" or not are_hands(hands) or not is_rising(hands):
        return None
    return hands


def let_in(hands, row):
    """The let of these hands that this row of a text tells; None where it is none."""
    words = row.split(" ")
    let = tuple(words[1:3]) + (tuple(words[3:]),)
    if words[0] != "let" or not is_let(hands, let):
        return None
    return let
