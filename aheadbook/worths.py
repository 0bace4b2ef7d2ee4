"""Worths: hands, and for each set of them a whole number."""

from aheadbook.errors import BadWorths, NoHead
from aheadbook.kinds import check_hands, copied, is_number, is_set, sets_at, sets_of
from aheadbook.meeting import check_alike
from aheadbook.rows import check_row


class Worths:
    """Hands, and the worth of each set of them, 0 of the empty one."""

    def __init__(self, hands, table):
        check_hands(hands)
        check_table(hands, table)
        self._hands = tuple(sorted(hands))
        self._worths = {members: table[members] for members in sets_at(hands)}

    def __len__(self):
        return len(self._worths)

    def __eq__(self, other):
        return isinstance(other, Worths) and self._worths == other._worths

    def hands(self):
        """All hands, a set."""
        return self._hands

    def worth(self, thing):
        """The worth of a set."""
        # What is no set need not be fit for a key.
        if not is_set(self._hands, thing):
            raise NoHead(copied(thing))
        return self._worths[thing]

    def numbers(self):
        """The worths of all sets, each at its set's number (aheadbook.tables)."""
        return list(self._worths.values())


def check_table(hands, table):
    """Refuses the first set without a worth that it can have; else what is no dict, or has something else as a key."""
    if not isinstance(table, dict):
        raise BadWorths(None)
    sets = sets_of(hands)
    for members in sets:
        if members not in table or not is_number(table[members]) or (not members and table[members] != 0):
            raise BadWorths(members)
    if len(table) != len(sets):
        raise BadWorths(None)


def gains(worths, row):
    """Of each hand what the set ahead of it in the row wins by it."""
    check_row(worths.hands(), row)
    return gains_of(worths, row)


def gains_of(worths, row):
    """The same of what surely is a row of the hands."""
    found = {}
    for place, hand in enumerate(row):
        earlier = worths.worth(tuple(sorted(row[:place])))
        found[hand] = worths.worth(tuple(sorted(row[:place + 1]))) - earlier
    return {hand: found[hand] for hand in worths.hands()}


def plus(one, other):
    """The sum of two worths of the same hands."""
    check_alike(one, other)
    hands = one.hands()
    return Worths(hands, {members: one.worth(members) + other.worth(members) for members in sets_of(hands)})


def covering(hands, goods, prices):
    """A set is worth the prices of all goods that any of its hands has, each once."""
    check_hands(hands)
    table = {}
    for members in sets_of(hands):
        held = {good: True for hand in members for good in goods[hand]}
        table[members] = sum([prices[good] for good in held])
    return Worths(hands, table)


def capped(hands, rows):
    """A set is worth, of each row (set, most), as many of its hands as are in the row's set, at most so many: added."""
    check_hands(hands)
    table = {}
    for members in sets_of(hands):
        table[members] = sum([min(most, len([hand for hand in some if hand in members])) for some, most in rows])
    return Worths(hands, table)
