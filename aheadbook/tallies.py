"""How many lots there are, by sums over the sets of hands that can stand ahead."""

from aheadbook.breaches import check_fair
from aheadbook.errors import NoHead
from aheadbook.kinds import copied, is_number, is_set, rest_of, sets_of, united


def behind(book):
    """Of each set, the greater ones first: into how many lots the rows of the others fall behind it."""
    check_fair(book)
    return sums(book, book.hands())


def is_behind(book, thing):
    """Whether it is a dict from just all sets to whole numbers, each as the sums tell."""
    if not isinstance(thing, dict) or not all([is_number(thing[key]) for key in thing]):
        return False
    return thing == sums(book, book.hands())


def count_lots(book):
    """How many lots there are."""
    return behind(book)[()]


def count_lots_by(book, head):
    """Of how many lots the web has this set as a head."""
    if not is_set(book.hands(), head):
        raise NoHead(copied(head))
    return behind(book)[head] * sums(book, head)[()]


def sums(book, hands):
    """The table of the sums, over the sets of these hands, all others standing behind; 1 of all of these hands."""
    table = {}
    whole = {}
    for ahead in sorted(sets_of(hands), key=len, reverse=True):
        whole[ahead] = whole_at(book, hands, whole, ahead)
        found = [sign_of(members) * table[united(ahead, members)] for members in whole[ahead]]
        # Of all hands none are left to stand next.
        table[ahead] = sum(found) if found else 1
    return table


def sign_of(members):
    """What a set of so many hands counts for: those of an even number are taken off."""
    return 1 if len(members) % 2 == 1 else -1


def whole_at(book, hands, whole, ahead):
    """The sets of the other hands, not empty, that are wholly let at this one."""
    found = {}
    for members in sorted(sets_of(rest_of(hands, ahead)), key=len)[1:]:
        if is_whole(book, whole, found, ahead, members):
            found[members] = True
    return found


def is_whole(book, whole, found, ahead, members):
    """Whether these are wholly let, where the lesser sets and those at greater sets are known."""
    if len(members) < 2:
        return True
    if len(members) == 2:
        return book.has(members + (ahead,))
    # Each let that is asked for leaves out some hand, or has one ahead, beside its own two.
    for hand in members:
        lesser = tuple(rest_of(members, (hand,)))
        if lesser not in found or lesser not in whole[united(ahead, (hand,))]:
            return False
    return True
