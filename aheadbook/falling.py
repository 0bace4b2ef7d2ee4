"""Falling worths: two hands never win more together than each of them alone, behind the same set."""

from aheadbook.books import book_by
from aheadbook.errors import NotFalling
from aheadbook.kinds import sets_at
from aheadbook.tables import also_let, empty_rows


def rise(worths):
    """The first let that rises, or None."""
    hands = worths.hands()
    sets = sets_at(hands)
    numbers = worths.numbers()
    for p, one in enumerate(hands):
        for q in range(p + 1, len(hands)):
            risen = [ahead for ahead, fall in falls_of(numbers, p, q) if fall < 0]
            if risen:
                return (one, hands[q], min([sets[ahead] for ahead in risen]))
    return None


def even_book(worths):
    """The book of all even lets."""
    hands = worths.hands()
    numbers = worths.numbers()
    rows = empty_rows(len(hands))
    for q in range(len(hands)):
        for p in range(q):
            also_let(rows, p, q, sum([1 << ahead for ahead, fall in falls_of(numbers, p, q) if fall == 0]))
    return book_by(hands, rows)


def falls_of(numbers, one, other):
    """Of each set without the two hands, by places and numbers: what they win less together than each alone."""
    first, second = 1 << one, 1 << other
    both = first | second
    return [
        (ahead, numbers[ahead | first] + numbers[ahead | second] - numbers[ahead | both] - numbers[ahead])
        for ahead in range(len(numbers))
        if not ahead & both
    ]


def check_falling(worths):
    """Refuses worths that are not falling."""
    let = rise(worths)
    if let is not None:
        raise NotFalling(let)
