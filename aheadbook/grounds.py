"""What lets follow from the lets of a book: the least fair book that has these, and grounds."""

from aheadbook.books import book_by, made_book
from aheadbook.errors import NoGround, NoLet
from aheadbook.kinds import copied, is_number, sets_at
from aheadbook.lets import is_let
from aheadbook.overs import over
from aheadbook.rings import is_ring, ring_lets
from aheadbook.ringtables import followed, ring_marks, ring_spots
from aheadbook.rows import check_row, exchanged, wanted
from aheadbook.tables import empty_rows, lacking, number_of_set, ones_of


def least_fair(book):
    """The least fair book that has all lets of the book."""
    return book_by(book.hands(), followed(book.table())[0])


def ground(book, let):
    """A ground of the let: rings by which it follows from the lets of the book."""
    hands = book.hands()
    if not is_let(hands, let):
        raise NoLet(copied(let))
    if book.has(let):
        return []
    p, q, ahead = let
    table, steps = followed(book.table())
    lacked = empty_rows(len(hands))
    lacked[hands.index(p)][hands.index(q)] = 1 << number_of_set(hands, ahead)
    path = []
    # Backward, from the let on: what a ring goes by was gained further ahead, or the book has it.
    for step in reversed(steps):
        path.extend(rings_at(hands, step, used_in(lacked, book.table(), step)))
    if not path:
        raise NoGround(copied(let))
    return list(reversed(path))


def used_in(lacked, table, step):
    """A one for each set whose ring gains in this step what is lacked; then what it goes by is lacked instead."""
    places, start, gained = step
    used = 0
    for mark, ones in zip(ring_marks(lacked, lacking(len(table)), places), gained):
        used = used | (mark & ones)
    if used:
        for k, (p, q, more) in enumerate(ring_spots(places)):
            left = lacked[p][q] & ~((used & gained[k]) << more)
            asked = (used << more) & ~table[p][q] if (k - start) % 6 < 3 else 0
            lacked[p][q] = left | asked
    return used


def rings_at(hands, step, ones):
    """The rings of the step, with its start, that have these sets ahead."""
    places, start, _ = step
    three = tuple([hands[place] for place in places])
    sets = sets_at(hands) if ones else []
    return [(three, sets[number], start) for number in ones_of(ones)]


def is_ground(book, let, thing):
    """Whether it is a ground of what is a let."""
    hands = book.hands()
    if not is_let(hands, let) or not isinstance(thing, list):
        return False
    gained = {}
    six = []
    for step in thing:
        if not is_step(hands, step):
            return False
        three, ahead, start = step
        six = ring_lets(three, ahead)
        asked = [six[(start + k) % 6] for k in range(3)]
        if not all([book.has(other) or other in gained for other in asked]):
            return False
        for other in six:
            gained[other] = True
    return let in six if thing else book.has(let)


def is_step(hands, thing):
    """Whether it is a tuple of a ring's three hands, the set ahead of them, and the number of one of its lets."""
    if not isinstance(thing, tuple) or len(thing) != 3:
        return False
    three, ahead, start = thing
    return is_ring(hands, three, ahead) and is_number(start) and 0 <= start <= 5


def bringing(book, one, other):
    """The least fair book that has all lets of the book and has both rows in one lot."""
    check_row(book.hands(), one)
    check_row(book.hands(), other)
    lets = book.lets()
    row = one
    # In a fair book each shortest way between two rows of a lot is let: it has to have those of this one.
    for place in over(one, other):
        lets.append(wanted(row, place))
        row = exchanged(row, place)
    return least_fair(made_book(book.hands(), lets))
