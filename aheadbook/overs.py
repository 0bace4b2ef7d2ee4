"""Shortest ways from a row to another one, whatever lets they want."""

from aheadbook.errors import NoNumber
from aheadbook.kinds import copied, is_number
from aheadbook.rows import check_rows, exchanged, turned_pairs


def over(one, other):
    """A shortest way: of all of them the first, in the order of tuples."""
    check_rows((one, other))
    way = []
    row = one
    # The row changes as it goes, and with it the places that lead nearer.
    while row != other:
        place = nearing(row, other)[0]
        way.append(place)
        row = exchanged(row, place)
    return tuple(way)


def is_between(one, other, row):
    """Whether the row stands on some shortest way from the one to the other."""
    check_rows((one, other, row))
    return far(one, row) + far(row, other) == far(one, other)


def count_over(one, other):
    """How many shortest ways there are."""
    check_rows((one, other))
    return counts_to(one, other)[one]


def over_at(one, other, number):
    """The shortest way that has this number among all, in the order of tuples."""
    check_rows((one, other))
    counts = counts_to(one, other)
    if not is_number(number) or not 0 <= number < counts[one]:
        raise NoNumber(copied(number))
    way = []
    row = one
    left = number
    while row != other:
        place, left = step_at(row, other, counts, left)
        way.append(place)
        row = exchanged(row, place)
    return tuple(way)


def far(one, other):
    """How many pairs stand otherwise."""
    return len(turned_pairs(one, other))


def nearing(row, goal):
    """The places at which a change leads nearer to the goal, rising."""
    spots = {hand: k for k, hand in enumerate(goal)}
    return [k for k in range(len(row) - 1) if spots[row[k + 1]] < spots[row[k]]]


def counts_to(one, other):
    """Of each row between: how many shortest ways lead from it to the other one."""
    counts = {other: 1}
    layer = [other]
    # Backward, one change at a time: each layer is one change nearer to the one.
    for _ in range(far(one, other)):
        ahead = {}
        for row in layer:
            for place in nearing(row, one):
                earlier = exchanged(row, place)
                ahead[earlier] = ahead.get(earlier, 0) + counts[row]
        counts.update(ahead)
        layer = list(ahead)
    return counts


def step_at(row, other, counts, number):
    """The first place of the way with this number, and its number among the ways that begin there."""
    places = nearing(row, other)
    left = number
    k = 0
    while left >= counts[exchanged(row, places[k])]:
        left = left - counts[exchanged(row, places[k])]
        k = k + 1
    return (places[k], left)
