"""[4] What the whole promises, by going through rows."""

import unittest
from itertools import combinations, permutations

from aheadbook.books import Book
from aheadbook.breaches import breaches, is_fair, shown
from aheadbook.counting import count_rows
from aheadbook.fairlots import parted, way, web_at, webs
from aheadbook.looker import is_lot
from aheadbook.lots import bound, fewest, lots
from aheadbook.makers import by_between, by_counts, by_pairs, by_web
from aheadbook.tallies import count_lots
from aheadbook.ways import walked
from tests.things import (
    NAMES,
    fair_books_of,
    fair_lets,
    keeping,
    lets_of,
    some_lets,
    spread,
    standing_otherwise,
    webs_of,
)


def every_book_of_three():
    lets = lets_of(NAMES[:3])
    for many in range(len(lets) + 1):
        for some in combinations(lets, many):
            yield Book(NAMES[:3], some)


def books_here_and_there():
    """Books of up to five hands, fair ones and others."""
    for many in (1, 2, 4, 5):
        hands = NAMES[:many]
        for seed, share in enumerate([0, 10, 20, 30, 45, 60, 75, 90, 100]):
            lets = some_lets(hands, seed, share)
            yield Book(hands, lets)
            yield Book(hands, fair_lets(hands, lets))
            for let in fair_lets(hands, lets)[::17]:
                yield Book(hands, [other for other in fair_lets(hands, lets) if other != let])


def made_books():
    four, five = NAMES[:4], NAMES[:5]
    for web in webs_of(four):
        yield by_web(four, web)
    for pairs in permutations(combinations(four, 2), 2):
        yield by_pairs(four, pairs)
    for counts in [[0], [1], [2], [3], [0, 2], [0, 3], [1, 3], [0, 1, 3]]:
        yield by_counts(five, counts)
    for ahead, behind in [(1, None), (None, 1), (1, 1), (2, 2), (2, 1)]:
        for both in (False, True):
            yield by_between(five, ahead, behind, both=both)


def fair_by_going(book):
    """Whether each lot has all rows that keep its bound pairs, each two as few let changes apart as they are far."""
    lets = set(book.lets())
    for rows in lots(book):
        if keeping(book.hands(), bound(rows)) != rows:
            return False
        for one in rows:
            steps = spread(lets, one)
            if any(steps[other] != standing_otherwise(one, other) for other in rows):
                return False
    return True


class FairTest(unittest.TestCase):
    def check(self, books):
        told = set()
        for book in books:
            fair = is_fair(book)
            told.add(fair)
            self.assertIs(fair, fair_by_going(book))
            self.assertEqual(breaches(book) == [], fair)
        return told

    def test_every_book_of_three_hands(self):
        self.assertEqual(self.check(every_book_of_three()), {True, False})

    def test_books_here_and_there(self):
        self.assertEqual(self.check(books_here_and_there()), {True, False})

    def test_made_books(self):
        self.check(made_books())

    def test_where_a_book_is_not_fair_a_ring_shows_it(self):
        for book in books_here_and_there():
            for breach in breaches(book)[:3]:
                row, way, other = shown(book, breach)
                last = walked(book, row, way)[-1]
                rows = sorted(spread(set(book.lets()), row))
                self.assertIn(last, rows)
                # Other keeps all bound pairs one change away: it is no row of the lot, or further by lets.
                self.assertIn(other, keeping(book.hands(), bound(rows)))
                self.assertEqual(standing_otherwise(last, other), 1)
                self.assertNotEqual(fewest(book, last, other), 1)


class LotsTest(unittest.TestCase):
    """The second row of [4]: of fair books, up to five hands."""

    def test_a_web_that_the_looker_takes_tells_a_lot(self):
        for hands, lets in fair_books_of(5):
            book = Book(hands, lets)
            for rows in lots(book):
                told = {web_at(book, row) for row in rows}
                self.assertEqual(len(told), 1)
                web = told.pop()
                self.assertIs(is_lot(book, web), True)
                self.assertEqual(keeping(hands, web), rows)
                self.assertEqual(count_rows(hands, web), len(rows))

    def test_of_two_rows_a_shortest_way_of_lets_or_a_pair(self):
        for hands, lets in fair_books_of(5):
            book = Book(hands, lets)
            rows = list(permutations(hands))
            for one, other in zip(rows[::3], rows[1::2] + rows[::5]):
                pair = parted(book, one, other)
                if pair is None:
                    told = way(book, one, other)
                    self.assertEqual(len(told), standing_otherwise(one, other))
                    self.assertEqual(walked(book, one, told)[-1], other)
                else:
                    a, b = pair
                    self.assertIn(pair, bound(sorted(spread(set(lets), one))))
                    self.assertLess(other.index(b), other.index(a))

    def test_lots_and_their_rows_are_counted(self):
        for hands, lets in fair_books_of(5):
            book = Book(hands, lets)
            told = webs(book)
            self.assertEqual(len(told), len(lots(book)))
            self.assertEqual(count_lots(book), len(told))
            self.assertEqual(sum(count_rows(hands, web) for web in told), len(list(permutations(hands))))


if __name__ == "__main__":
    unittest.main()
