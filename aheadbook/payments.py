"""What orders pay: the rows whose gains are told payments, or a bar that none pays so."""

from aheadbook.errors import NotPaid
from aheadbook.falling import check_falling
from aheadbook.kinds import is_set, sets_at
from aheadbook.tables import number_of_set


def used(worths, pay):
    """The sets whose hands' payments add to just their worth, rising."""
    sets = sets_at(worths.hands())
    return sorted([sets[number] for number in used_up(left_over(worths, pay))])


def paid(worths, pay):
    """The web that just those rows keep by which the gains are these payments."""
    check_falling(worths)
    left = left_over(worths, pay)
    check_bearable(worths, left)
    stuck = stuck_sets(left)
    sets = sets_at(worths.hands())
    if stuck:
        raise NotPaid(("stuck", min([sets[number] for number in stuck])))
    # The rows are those whose heads are all used up, and these sets are just the heads of the web.
    heads = [sets[number] for number in used_up(left)]
    hands = worths.hands()
    return tuple([(a, b) for a in hands for b in hands if a != b and stands_ahead(heads, a, b)])


def stands_ahead(heads, one, other):
    """Whether each of these sets with the other has the one, too."""
    return all([one in head for head in heads if other in head])


def is_bar(worths, pay, thing):
    """Whether it is a bar of the payments, with any set of which it is so."""
    if not isinstance(thing, tuple) or not 1 <= len(thing) <= 2:
        return False
    left = left_over(worths, pay)
    if len(thing) == 1:
        return thing[0] == "all" and left[-1] != 0
    word, members = thing
    if not is_set(worths.hands(), members):
        return False
    number = number_of_set(worths.hands(), members)
    return (word == "more" and left[number] < 0) or (word == "stuck" and number in stuck_sets(left))


def added(hands, amounts):
    """Of each set of the hands, at its number, what its hands' amounts add to."""
    sums = [0]
    for hand in hands:
        sums = sums + [earlier + amounts[hand] for earlier in sums]
    return sums


def left_over(worths, pay):
    """Of each set, at its number, what its payments leave of its worth: below 0 where it gets more."""
    sums = added(worths.hands(), pay)
    return [number - amount for number, amount in zip(worths.numbers(), sums)]


def used_up(left):
    """The numbers of the sets of whose worth nothing is left, rising."""
    return [number for number, amount in enumerate(left) if amount == 0]


def stuck_sets(left):
    """The numbers of the sets used up, but all hands, of which no set with just one hand more is used up, rising."""
    every = len(left) - 1
    singles = [1 << place for place in range(every.bit_length())]
    found = []
    for number in used_up(left):
        following = [left[number | single] for single in singles if not number & single]
        if number != every and 0 not in following:
            found.append(number)
    return found


def check_bearable(worths, left):
    """Refuses payments by which all don't get the worth of all, or some set gets more than its worth."""
    if left[-1] != 0:
        raise NotPaid(("all",))
    sets = sets_at(worths.hands())
    more = [sets[number] for number, amount in enumerate(left) if amount < 0]
    if more:
        raise NotPaid(("more", min(more)))
