"""Books: hands, and the lets by which two neighbours of them may change places."""

from aheadbook.errors import NoLet
from aheadbook.kinds import check_hands, copied
from aheadbook.lets import is_let
from aheadbook.tables import lets_in, table_of


class Book:
    """Hands and lets, whatever the order in which they were told."""

    def __init__(self, hands, lets=()):
        check_hands(hands)
        check_lets(hands, lets)
        self._fill(hands, lets)

    def __len__(self):
        return len(self._lets)

    def __eq__(self, other):
        return isinstance(other, Book) and self._hands == other._hands and self._lets == other._lets

    def hands(self):
        """All hands, a set."""
        return self._hands

    def lets(self):
        """All lets, each once, rising."""
        return list(self._lets)

    def has(self, thing):
        """Whether it is a let that the book has."""
        # What is no let need not be fit for a key.
        return is_let(self._hands, thing) and thing in self._held

    def table(self):
        """The table of its lets (aheadbook.tables)."""
        return self._table

    def _fill(self, hands, lets):
        self._hands = tuple(sorted(hands))
        self._lets = tuple(sorted(set(lets)))
        self._held = {let: True for let in self._lets}
        self._table = table_of(self._hands, self._lets)


def check_lets(hands, lets):
    """Refuses what is no list or tuple, and the first in it that is no let."""
    if not isinstance(lets, (list, tuple)):
        raise NoLet(copied(lets))
    for let in lets:
        if not is_let(hands, let):
            raise NoLet(copied(let))


def made_book(hands, lets):
    """The book of what surely are lets of these hands."""
    # A book put together of others may have more hands than can be handed in, and is not refused for it.
    book = Book(hands[:1])
    book._fill(hands, lets)
    return book


def book_by(hands, table):
    """The book of what surely is a table of these hands, a set."""
    return made_book(hands, lets_in(hands, table))
