"""Sets of hands as numbers, and the lets of a book as a table of numbers, to ask of all sets at once.

A set's number has a one for each of its hands, the least hand's lowest. A table tells, of each two hands
by their places among all, a number that has a one for each set behind which they are let, at the set's number.
"""

from aheadbook.kinds import sets_at


def ones_of(number):
    """The places of the ones of this number, rising."""
    places = []
    left = number
    while left:
        low = left & -left
        places.append(low.bit_length() - 1)
        left = left ^ low
    return places


def number_of_set(hands, members):
    """The number of a set of these hands, a set."""
    return sum([1 << hands.index(hand) for hand in members])


def lacking(many):
    """Of each of so many hands: a one for each set that lacks it."""
    every = (1 << (1 << many)) - 1
    # As many ones as zeros in turn: what lacks the hand, and the same with it.
    return [every // ((1 << (1 << place)) + 1) for place in range(many)]


def table_of(hands, lets):
    """The table of these lets of these hands, a set."""
    spots = {hand: place for place, hand in enumerate(hands)}
    numbers = {members: number for number, members in enumerate(sets_at(hands))}
    found = empty_rows(len(hands))
    for p, q, ahead in lets:
        also_let(found, spots[p], spots[q], 1 << numbers[ahead])
    return table_copied(found)


def also_let(rows, one, other, ones):
    """Has the two let behind these sets, too, in rows that are being written."""
    rows[one][other] = rows[one][other] | ones
    rows[other][one] = rows[one][other]


def empty_rows(many):
    """Rows for so many hands without a let, to be written."""
    return [[0 for _ in range(many)] for _ in range(many)]


def table_copied(rows):
    """The table that these rows have become."""
    return tuple([tuple(row) for row in rows])


def lets_in(hands, table):
    """The lets of the table, rising."""
    sets = sets_at(hands)
    lets = []
    for p, one in enumerate(hands):
        for q in range(p + 1, len(hands)):
            members = sorted([sets[number] for number in ones_of(table[p][q])])
            lets.extend([(one, hands[q], ahead) for ahead in members])
    return lets
