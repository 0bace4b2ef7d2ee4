"""[23] Two books of the same hands: met, joined, the one within the other; [2] of them."""

import unittest
from itertools import permutations

from aheadbook.books import Book
from aheadbook.breaches import is_fair
from aheadbook.errors import Unlike
from aheadbook.fairlots import webs
from aheadbook.meeting import joined, met, within
from aheadbook.webs import closed
from tests.things import NAMES, Refusing, fair_books_of, fair_lets, lets_of, lots_by_going, some_lets

FOUR = NAMES[:4]


def two_books():
    """Hands, and lets of two books of them."""
    for many in range(1, 9):
        hands = NAMES[:many]
        for seed, (one, other) in enumerate([(0, 0), (10, 10), (30, 5), (60, 60), (100, 20), (100, 100)]):
            yield hands, some_lets(hands, ("one", seed), one), some_lets(hands, ("other", seed), other)


class MeetingTest(unittest.TestCase):
    def test_met_joined_and_within_both_ways_round(self):
        for hands, one, other in two_books():
            first, second = Book(hands, one), Book(hands, other)
            both = sorted(set(one) & set(other))
            either = fair_lets(hands, one + other)
            for book, another in [(first, second), (second, first)]:
                self.assertEqual(met(book, another).lets(), both)
                self.assertEqual(joined(book, another).lets(), either)
                self.assertEqual(joined(book, another).hands(), hands)
                self.assertIs(is_fair(joined(book, another)), True)
            self.assertIs(within(first, second), set(one) <= set(other))
            self.assertIs(within(second, first), set(other) <= set(one))
            self.assertEqual((first, second), (Book(hands, one), Book(hands, other)))

    def test_within(self):
        for hands, one, other in two_books():
            first, second = Book(hands, one), Book(hands, one + other)
            self.assertIs(within(first, second), True)
            self.assertIs(within(second, first), len(first) == len(second))
            self.assertIs(within(first, first), True)
            self.assertIs(within(met(first, Book(hands, other)), first), True)
            self.assertIs(within(first, joined(first, Book(hands, other))), True)
            for let in second.lets()[::41]:
                less = Book(hands, [held for held in second.lets() if held != let])
                self.assertIs(within(second, less), False)
                self.assertIs(within(less, second), True)

    def test_a_new_book(self):
        book = Book(FOUR, lets_of(FOUR))
        for told in (met(book, book), joined(book, book)):
            self.assertEqual(told, book)
            self.assertIsNot(told, book)

    def test_hands_in_another_order_are_the_same(self):
        one = Book(FOUR, [("ann", "bob", ()), ("bob", "cay", ())])
        for hands in permutations(FOUR):
            other = Book(list(hands), [("bob", "cay", ()), ("cay", "dan", ("ann",))])
            self.assertEqual(met(one, other), Book(FOUR, [("bob", "cay", ())]))
            self.assertEqual(len(joined(one, other)), 3)
            self.assertIs(within(one, other), False)

    def test_joined_with_a_third_one_whichever_come_first(self):
        for seed in range(12):
            for hands in (NAMES[:3], FOUR, NAMES[:6]):
                books = [Book(hands, some_lets(hands, (seed, k), 12)) for k in range(3)]
                wanted = fair_lets(hands, [let for book in books for let in book.lets()])
                for one, two, three in permutations(books):
                    self.assertEqual(joined(joined(one, two), three).lets(), wanted)
                    self.assertEqual(joined(one, joined(two, three)).lets(), wanted)

    def test_lots_of_the_met_one_are_where_the_lots_of_both_cut(self):
        books = [(hands, lets) for hands, lets in fair_books_of(4) if len(hands) > 2]
        for hands, one in books:
            for other in [lets for same, lets in books if same == hands]:
                told = met(Book(hands, one), Book(hands, other))
                self.assertIs(is_fair(told), True)
                lots = [lots_by_going(hands, set(lets)) for lets in (one, other)]
                cuts = [set(a) & set(b) for a in lots[0] for b in lots[1]]
                self.assertEqual(
                    [list(rows) for rows in lots_by_going(hands, set(told.lets()))],
                    sorted(sorted(cut) for cut in cuts if cut),
                )

    def test_webs_of_the_met_one_are_both_put_together_and_closed(self):
        one = Book(FOUR, fair_lets(FOUR, some_lets(FOUR, 1, 40)))
        other = Book(FOUR, fair_lets(FOUR, some_lets(FOUR, 9, 25)))
        some = {web: True for web in webs(met(one, other))}
        for first in webs(one):
            for second in webs(other):
                if not any((b, a) in second for a, b in first):
                    try:
                        self.assertIn(closed(FOUR, first + second), some)
                    except ValueError:
                        pass


class UnlikeTest(unittest.TestCase, Refusing):
    def test_other_hands(self):
        book = Book(FOUR, lets_of(FOUR))
        for hands in [NAMES[:3], NAMES[1:4], NAMES[:5], NAMES, ("ann", "bob", "cay", "dana"), NAMES[4:], ("ann",)]:
            other = Book(hands)
            for call in (met, joined, within):
                self.refused(Unlike, {}, call, book, other)
                self.refused(Unlike, {}, call, other, book)

    def test_by_names(self):
        one, other = Book(FOUR, [("ann", "bob", ())]), Book(FOUR)
        self.assertEqual(met(other=other, one=one), other)
        self.assertEqual(joined(other=other, one=one), one)
        self.assertIs(within(other=other, one=one), False)


if __name__ == "__main__":
    unittest.main()
