"""How many lots there are, by sums over the sets of hands that can stand ahead."""

from aheadbook.breaches import check_fair
from aheadbook.errors import NoHead
from aheadbook.kinds import copied, is_number, is_set, sets_at, sets_of
from aheadbook.tables import lacking, number_of_set, ones_of


def behind(book):
    """Of each set, the greater ones first: into how many lots the rows of the others fall behind it."""
    check_fair(book)
    return table_of_sums(book)


def is_behind(book, thing):
    """Whether it is a dict from just all sets to whole numbers, each as the sums tell."""
    if not isinstance(thing, dict) or not all([is_number(thing[key]) for key in thing]):
        return False
    return thing == table_of_sums(book)


def count_lots(book):
    """How many lots there are."""
    check_fair(book)
    whole = whole_at(book.table())
    return sums_between(whole, 0, len(whole) - 1)[0]


def count_lots_by(book, head):
    """Of how many lots the web has this set as a head."""
    hands = book.hands()
    if not is_set(hands, head):
        raise NoHead(copied(head))
    check_fair(book)
    whole = whole_at(book.table())
    number = number_of_set(hands, head)
    return sums_between(whole, number, len(whole) - 1)[number] * sums_between(whole, 0, number)[0]


def table_of_sums(book):
    """The table of the sums over all sets, the greater ones first."""
    hands = book.hands()
    whole = whole_at(book.table())
    sums = sums_between(whole, 0, len(whole) - 1)
    numbers = {members: number for number, members in enumerate(sets_at(hands))}
    return {members: sums[numbers[members]] for members in sorted(sets_of(hands), key=len, reverse=True)}


def sums_between(whole, low, high):
    """The sums of the sets that have all hands of the low one and none beyond the high one, of which it is 1.

    All sets are told by their numbers, the hands beyond the high one stand behind.
    """
    parts = parts_of(high ^ low)
    signs = [sign_of(members) for members in range(len(whole))]
    sums = {high: 1}
    # A set of fewer hands left has a lesser number: the sums that are added come first.
    for rest in parts[high ^ low]:
        ahead = high ^ rest
        sums[ahead] = sum([
            signs[members] * sums[ahead | members] for members in parts[rest] if whole[members] >> ahead & 1
        ])
    return sums


def parts_of(members):
    """Of each set of these hands, by numbers, all sets of its hands but the empty one, rising."""
    found = {0: []}
    for place in ones_of(members):
        more = 1 << place
        for rest in list(found):
            found[rest | more] = found[rest] + [more] + [part | more for part in found[rest]]
    return found


def sign_of(members):
    """What a set counts for: those of an even number of hands are taken off."""
    return 1 if len(ones_of(members)) & 1 else -1


def whole_at(table):
    """Of each set, by numbers, but the empty one: a one for each set at which it is wholly let."""
    found = lacking(len(table))
    whole = [0]
    for members in range(1, 1 << len(table)):
        places = ones_of(members)
        if len(places) == 1:
            whole.append(found[places[0]])
        elif len(places) == 2:
            whole.append(table[places[0]][places[1]])
        else:
            whole.append(whole_by_lesser(whole, members, places))
    return whole


def whole_by_lesser(whole, members, places):
    """The same of three hands or more, where it is known of the lesser sets."""
    ones = -1
    # Each let that is asked for is of two hands, and so leaves out one of any three: with it ahead, or not.
    for place in places[:3]:
        lesser = whole[members ^ (1 << place)]
        ones = ones & lesser & (lesser >> (1 << place))
    return ones
