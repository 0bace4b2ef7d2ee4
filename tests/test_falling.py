"""[27] Lets that rise, falling worths, the book of even lets; [2] of them."""

import unittest

from aheadbook.books import Book
from aheadbook.breaches import is_fair
from aheadbook.falling import even_book, rise
from aheadbook.meeting import met
from aheadbook.worths import Worths, capped, covering, plus
from tests.things import (
    NAMES,
    as_set,
    falling_tables,
    lets_of,
    other_tables,
    rising_lets,
    sets_of,
    some_caps,
    some_goods,
)

THREE = NAMES[:3]
FOUR = NAMES[:4]


def even_lets(hands, table):
    """The lets that are even, rising."""
    return [
        (p, q, ahead)
        for p, q, ahead in lets_of(hands)
        if table[as_set(ahead + (p,))] + table[as_set(ahead + (q,))] == table[as_set(ahead + (p, q))] + table[ahead]
    ]


class RiseTest(unittest.TestCase):
    def test_the_first_let_that_rises(self):
        for many in range(1, 7):
            hands = NAMES[:many]
            for table in other_tables(hands, 12):
                rising = rising_lets(hands, table)
                self.assertEqual(rise(Worths(hands, table)), rising[0] if rising else None)

    def test_as_the_worth_of_one_set_grows(self):
        for some in sets_of(FOUR)[1:]:
            table = {members: -10 * len(members) ** 2 for members in sets_of(FOUR)}
            for _ in range(60):
                table[some] += 1
                rising = rising_lets(FOUR, table)
                self.assertEqual(rise(Worths(FOUR, table)), rising[0] if rising else None)

    def test_none_where_none_rises(self):
        for many in range(1, 9):
            hands = NAMES[:many]
            for table in falling_tables(hands, 4):
                self.assertEqual(rising_lets(hands, table), [])
                self.assertIsNone(rise(Worths(hands, table)))
            # Even everywhere is not rising; one more for all is.
            table = {some: 3 * len(some) for some in sets_of(hands)}
            self.assertIsNone(rise(Worths(hands, table)))
            table[hands] += 1
            last = None if many == 1 else ("ann", "bob", hands[2:])
            self.assertEqual(rise(Worths(hands, table)), last)

    def test_of_covering_and_capped_ones_and_sums_of_such(self):
        for many in range(1, 9):
            hands = NAMES[:many]
            worths = capped(hands, some_caps(hands, 0))
            for seed in range(4):
                one = covering(hands, *some_goods(hands, seed))
                other = capped(hands, some_caps(hands, seed))
                worths = plus(worths, plus(one, other))
                for told in (one, other, worths):
                    self.assertIsNone(rise(told))

    def test_by_names(self):
        self.assertIsNone(rise(worths=capped(["ann"], [])))


class EvenTest(unittest.TestCase):
    def test_just_the_even_lets(self):
        for many in range(1, 8):
            hands = NAMES[:many]
            for table in [*falling_tables(hands, 6), *other_tables(hands, 6)]:
                told = even_book(Worths(hands, table))
                self.assertIs(told.__class__, Book)
                self.assertEqual(told, Book(hands, even_lets(hands, table)))

    def test_of_falling_worths_it_is_fair(self):
        for many in range(1, 9):
            hands = NAMES[:many]
            for table in falling_tables(hands, 6):
                self.assertIs(is_fair(even_book(Worths(hands, table))), True)

    def test_of_a_sum_of_two_the_two_books_met(self):
        for many in range(1, 7):
            hands = NAMES[:many]
            worths = [Worths(hands, table) for table in falling_tables(hands, 6)]
            for one in worths:
                for other in worths:
                    self.assertEqual(even_book(plus(one, other)), met(even_book(one), even_book(other)))

    def test_a_new_book_each_time(self):
        worths = capped(THREE, [(THREE, 1)])
        self.assertIsNot(even_book(worths), even_book(worths))
        self.assertEqual(even_book(worths).lets(), [let for let in lets_of(THREE) if let[2]])

    def test_by_names(self):
        self.assertEqual(even_book(worths=capped(["ann"], [])), Book(["ann"]))


if __name__ == "__main__":
    unittest.main()
