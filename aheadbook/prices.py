"""Rows at prices: the one that brings most or least, and papers that bound what any row brings."""

from aheadbook.falling import check_falling
from aheadbook.kinds import is_number, is_set
from aheadbook.worths import gains_of


def best(worths, prices):
    """The row that brings most, what it brings, and a paper that no row brings more."""
    check_falling(worths)
    return priced(worths, prices, sorted([(-prices[hand], hand) for hand in worths.hands()]))


def least(worths, prices):
    """The row that brings least, what it brings, and a paper that no row brings less."""
    check_falling(worths)
    return priced(worths, prices, sorted([(prices[hand], hand) for hand in worths.hands()]))


def priced(worths, prices, order):
    """The row of the hands in this order, what it brings, and a paper of its heads, each with how far prices step."""
    row = tuple([hand for _, hand in order])
    gained = gains_of(worths, row)
    brought = sum([gained[hand] * prices[hand] for hand in row])
    following = [prices[hand] for hand in row[1:]] + [0]
    steps = [prices[hand] - after for hand, after in zip(row, following)]
    paper = [(tuple(sorted(row[:place + 1])), step) for place, step in enumerate(steps) if step != 0]
    return (row, brought, paper)


def bound_of(worths, prices, thing, *, low=False):
    """The bound of a paper: what no row brings more than, of falling worths, or with low told true less; else None."""
    hands = worths.hands()
    if not isinstance(thing, list) or not all([is_entry(hands, part, low) for part in thing]):
        return None
    if len({members for members, _ in thing}) != len(thing):
        return None
    for hand in hands:
        if sum([number for members, number in thing if hand in members]) != prices[hand]:
            return None
    return sum([number * worths.worth(members) for members, number in thing])


def is_entry(hands, thing, low):
    """Whether it is a tuple of a set, not empty, and a number that it can have in a paper."""
    if not isinstance(thing, tuple) or len(thing) != 2:
        return False
    members, number = thing
    if not is_set(hands, members) or not members or not is_number(number):
        return False
    return members == hands or (number <= 0 if low else number >= 0)
