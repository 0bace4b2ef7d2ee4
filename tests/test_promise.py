"""[4] What the whole promises, by going through rows."""

import unittest
from itertools import combinations, permutations

from aheadbook.books import Book
from aheadbook.breaches import breaches, is_fair, shown
from aheadbook.lots import bound, fewest, lots
from aheadbook.makers import by_between, by_counts, by_pairs, by_web
from aheadbook.ways import walked
from tests.things import NAMES, fair_lets, keeping, lets_of, some_lets, spread, standing_otherwise, webs_of


def every_book_of_three():
    lets = lets_of(NAMES[:3])
    for many in range(len(lets) + 1):
        for some in combinations(lets, many):
            yield Book(NAMES[:3], some)


def books_here_and_there():
    """Books of up to five hands, fair ones and others."""
    for many in (1, 2, 4, 5):
        hands = NAMES[:many]
        for seed, share in enumerate([0, 10, 20, 30, 45, 60, 75, 90, 100]):
            lets = some_lets(hands, seed, share)
            yield Book(hands, lets)
            yield Book(hands, fair_lets(hands, lets))
            for let in fair_lets(hands, lets)[::17]:
                yield Book(hands, [other for other in fair_lets(hands, lets) if other != let])


def made_books():
    four, five = NAMES[:4], NAMES[:5]
    for web in webs_of(four):
        yield by_web(four, web)
    for pairs in permutations(combinations(four, 2), 2):
        yield by_pairs(four, pairs)
    for counts in [[0], [1], [2], [3], [0, 2], [0, 3], [1, 3], [0, 1, 3]]:
        yield by_counts(five, counts)
    for ahead, behind in [(1, None), (None, 1), (1, 1), (2, 2), (2, 1)]:
        for both in (False, True):
            yield by_between(five, ahead, behind, both=both)


def fair_by_going(book):
    """Whether each lot has all rows that keep its bound pairs, each two as few let changes apart as they are far."""
    lets = set(book.lets())
    for rows in lots(book):
        if keeping(book.hands(), bound(rows)) != rows:
            return False
        for one in rows:
            steps = spread(lets, one)
            if any(steps[other] != standing_otherwise(one, other) for other in rows):
                return False
    return True


class FairTest(unittest.TestCase):
    def check(self, books):
        told = set()
        for book in books:
            fair = is_fair(book)
            told.add(fair)
            self.assertIs(fair, fair_by_going(book))
            self.assertEqual(breaches(book) == [], fair)
        return told

    def test_every_book_of_three_hands(self):
        self.assertEqual(self.check(every_book_of_three()), {True, False})

    def test_books_here_and_there(self):
        self.assertEqual(self.check(books_here_and_there()), {True, False})

    def test_made_books(self):
        self.check(made_books())

    def test_where_a_book_is_not_fair_a_ring_shows_it(self):
        for book in books_here_and_there():
            for breach in breaches(book)[:3]:
                row, way, other = shown(book, breach)
                last = walked(book, row, way)[-1]
                rows = sorted(spread(set(book.lets()), row))
                self.assertIn(last, rows)
                # Other keeps all bound pairs one change away: it is no row of the lot, or further by lets.
                self.assertIn(other, keeping(book.hands(), bound(rows)))
                self.assertEqual(standing_otherwise(last, other), 1)
                self.assertNotEqual(fewest(book, last, other), 1)


if __name__ == "__main__":
    unittest.main()
