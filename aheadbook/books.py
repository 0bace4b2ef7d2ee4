"""Books: hands, and the lets by which two neighbours of them may change places."""

from aheadbook.errors import NoLet
from aheadbook.kinds import check_hands, copied
from aheadbook.lets import is_let


class Book:
    """Hands and lets, whatever the order in which they were told."""

    def __init__(self, hands, lets=()):
        check_hands(hands)
        check_lets(hands, lets)
        self._hands = tuple(sorted(hands))
        self._lets = tuple(sorted(set(lets)))
        self._held = {let: True for let in self._lets}

    def __len__(self):
        return len(self._lets)

    def __eq__(self, other):
        return isinstance(other, Book) and self._hands == other._hands and self._lets == other._lets

    def hands(self):
        """All hands, a set."""
        return self._hands

    def lets(self):
        """All lets, each once, rising."""
        return list(self._lets)

    def has(self, thing):
        """Whether it is a let that the book has."""
        # What is no let need not be fit for a key.
        return is_let(self._hands, thing) and thing in self._held


def check_lets(hands, lets):
    """Refuses what is no list or tuple, and the first in it that is no let."""
    if not isinstance(lets, (list, tuple)):
        raise NoLet(copied(lets))
    for let in lets:
        if not is_let(hands, let):
            raise NoLet(copied(let))
