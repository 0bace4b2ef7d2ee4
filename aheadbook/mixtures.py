"""Mixtures: rows, each with a weight, by whose gains the hands get told payments on the whole."""

from math import factorial, gcd

from aheadbook.falling import check_falling
from aheadbook.kinds import is_number
from aheadbook.payments import added, check_bearable, left_over
from aheadbook.rows import is_row
from aheadbook.tables import ones_of
from aheadbook.worths import gains_of


def mixed(worths, pay):
    """A mixture of the payments."""
    check_falling(worths)
    check_bearable(worths, left_over(worths, pay))
    # The walk is at amounts, each of which stands for so many parts of it; the last weight is what is left for them.
    amounts, parts = {hand: pay[hand] for hand in worths.hands()}, 1
    rows, weights = [row_through(worths, amounts, parts)], [1]
    gained = gains_of(worths, rows[-1])
    while not pays_just(gained, amounts, parts):
        step, way = furthest(worths, gained, amounts, parts)
        # What the amounts weigh is shared by the row, behind which the walk goes on, and by where it comes to.
        earlier = [weight * (step + way) for weight in weights[:-1]]
        weights = lessened(earlier + [weights[-1] * step, weights[-1] * way])
        amounts, parts = gone_on(gained, amounts, parts, step, way)
        rows.append(row_through(worths, amounts, parts))
        gained = gains_of(worths, rows[-1])
    return list(zip(rows, weights))


def row_through(worths, amounts, parts):
    """A row whose heads hold a longest chain of the sets that the amounts use up."""
    hands = worths.hands()
    sums = added(hands, amounts)
    used = [number for number, worth in enumerate(worths.numbers()) if sums[number] == worth * parts]
    row = ()
    head = 0
    # Where two sets are used up, what they share and what they are together is: so any chain that leaves none out
    # is a longest one. A set's numbers are greater than its parts': the next of the chain is the least one.
    for number in used:
        if number & head == head:
            row = row + tuple([hands[place] for place in ones_of(number ^ head)])
            head = number
    return row


def pays_just(gained, amounts, parts):
    """Whether the gains are just what the amounts stand for."""
    return all([gained[hand] * parts == amounts[hand] for hand in gained])


def furthest(worths, gained, amounts, parts):
    """How far the walk can go from the gains on through the amounts, till one more set is used up.

    Two numbers: behind the amounts it goes as much of the way so far as the first number has of the second one.
    """
    found = None
    sums = added(worths.hands(), amounts)
    gains = added(worths.hands(), gained)
    for number, worth in enumerate(worths.numbers()):
        left = worth * parts - sums[number]
        more = sums[number] - gains[number] * parts
        if more > 0 and (found is None or left * found[1] < found[0] * more):
            found = [left, more]
    return tuple(lessened(found))


def gone_on(gained, amounts, parts, step, way):
    """The amounts so far on, with as few parts as they need."""
    further = {hand: amounts[hand] * (way + step) - gained[hand] * parts * step for hand in amounts}
    least = lessened([parts * way] + [further[hand] for hand in further])
    return dict(zip(further, least[1:])), least[0]


def lessened(numbers):
    """Whole numbers that are to one another as these, as small as they can be."""
    common = 0
    for number in numbers:
        common = gcd(common, number)
    return [number // common for number in numbers]


def is_mixture(worths, pay, thing):
    """Whether it is a mixture of the payments."""
    hands = worths.hands()
    if not isinstance(thing, list) or not 1 <= len(thing) <= len(hands):
        return False
    if not all([is_weighed(hands, part) for part in thing]):
        return False
    if len({row for row, _ in thing}) != len(thing):
        return False
    parts = sum([weight for _, weight in thing])
    amounts = {hand: 0 for hand in hands}
    for row, weight in thing:
        gained = gains_of(worths, row)
        for hand in hands:
            amounts[hand] = amounts[hand] + gained[hand] * weight
    return pays_just(pay, amounts, parts)


def is_weighed(hands, thing):
    """Whether it is a tuple of a row and a weight."""
    return isinstance(thing, tuple) and len(thing) == 2 and is_row(hands, thing[0]) and is_weight(thing[1])


def is_weight(thing):
    """Whether it is a whole number from 1 on."""
    return is_number(thing) and thing >= 1


def all_gains(worths):
    """The gains of all rows, added."""
    hands = worths.hands()
    numbers = worths.numbers()
    found = {hand: 0 for hand in hands}
    for number in range(len(numbers) - 1):
        ahead = len(ones_of(number))
        # Those ahead of the hand that comes next can stand in any order, and so can those behind it.
        orders = factorial(ahead) * factorial(len(hands) - 1 - ahead)
        for place, hand in enumerate(hands):
            if not number >> place & 1:
                found[hand] = found[hand] + orders * (numbers[number | (1 << place)] - numbers[number])
    return found
