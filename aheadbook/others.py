"""Books made of other books: of some of the hands, read from behind, renamed, and of two put together."""

from aheadbook.books import made_book
from aheadbook.errors import NoHead, NoNames, Unlike
from aheadbook.kinds import copied, is_hand, is_set, rest_of, sets_of, united


def after(book, head):
    """The book of the others, when this set stands ahead."""
    check_part(book, head)
    lets = [(p, q, ahead) for p, q, ahead in book.lets() if has_all(ahead, head)]
    return made_book(rest_of(book.hands(), head), [(p, q, tuple(rest_of(ahead, head))) for p, q, ahead in lets])


def before(book, tail):
    """The book of the others, when this set stands behind."""
    check_part(book, tail)
    left = rest_of(book.hands(), tail)
    return made_book(left, [(p, q, ahead) for p, q, ahead in book.lets() if has_all(left, (p, q) + ahead)])


def mirrored(book):
    """The book of the rows read from behind."""
    hands = book.hands()
    return made_book(hands, [(p, q, tuple(rest_of(hands, (p, q) + ahead))) for p, q, ahead in book.lets()])


def renamed(book, names):
    """The book with other names for its hands."""
    hands = book.hands()
    if not are_names(hands, names):
        raise NoNames(copied(names))
    lets = []
    for p, q, ahead in book.lets():
        lets.append(let_of(names[p], names[q], [names[hand] for hand in ahead]))
    return made_book([names[hand] for hand in hands], lets)


def beside(one, other):
    """The book of all hands of two books, each let as in its own book, and lets of hands of both, wherever they are."""
    check_unlike(one, other)
    first, second = one.hands(), other.hands()
    lets = []
    for book, strangers in [(one, second), (other, first)]:
        among = sets_of(strangers)
        lets.extend([(p, q, united(ahead, some)) for p, q, ahead in book.lets() for some in among])
    for a in first:
        for b in second:
            among = sets_of(rest_of(first + second, (a, b)))
            lets.extend([let_of(a, b, ahead) for ahead in among])
    return made_book(first + second, lets)


def stacked(one, other):
    """The book of all hands of two books, those of the first ahead of the other's."""
    check_unlike(one, other)
    first = one.hands()
    lets = [(p, q, united(first, ahead)) for p, q, ahead in other.lets()]
    return made_book(first + other.hands(), one.lets() + lets)


def has_all(members, some):
    """Whether all of these are among the members."""
    return all([hand in members for hand in some])


def let_of(one, other, ahead):
    """The let of two hands, in whatever order they are told."""
    return (min(one, other), max(one, other), tuple(sorted(ahead)))


def are_names(hands, thing):
    """Whether it is a dict that gives just these hands names, unlike ones."""
    if not isinstance(thing, dict) or len(thing) != len(hands) or not has_all(thing, hands):
        return False
    names = [thing[hand] for hand in hands]
    # The names come first: what is no name need not be fit for a set.
    return all([is_hand(name) for name in names]) and len(set(names)) == len(names)


def check_part(book, members):
    """Refuses what is no set of the book's hands, or all of them."""
    if not is_set(book.hands(), members) or members == book.hands():
        raise NoHead(copied(members))


def check_unlike(one, other):
    """Refuses two books with a like hand."""
    if any([hand in other.hands() for hand in one.hands()]):
        raise Unlike()
