"""[18] The looker over lots; [2] of it."""

import unittest
from itertools import combinations

from aheadbook.books import Book
from aheadbook.heads import heads, nexts
from aheadbook.looker import is_lot
from aheadbook.makers import by_web
from aheadbook.webs import ties
from tests.test_counting import CHAIN, CHAINS, some_webs
from tests.things import (
    NAMES,
    NO_WEBS,
    bound_in,
    fair_books_of,
    keeping,
    lets_of,
    lots_by_going,
    some_lets,
    wanted_let,
    webs_of,
)

FOUR = ["dan", "ann", "cay", "bob"]


def is_lot_by_going(hands, lets, web):
    """Whether the rows that keep the web are a lot, each two that are one change apart led into one another."""
    rows = keeping(hands, web)
    if tuple(rows) not in lots_by_going(hands, lets):
        return False
    kept = set(rows)
    for row in rows:
        for k in range(len(row) - 1):
            if row[:k] + (row[k + 1], row[k]) + row[k + 2:] in kept and wanted_let(row, k) not in lets:
                return False
    return True


def is_lot_by_words(book, web):
    """The two sentences on heads, as they stand."""
    hands = book.hands()
    for head in heads(hands, web):
        free = nexts(hands, web, head)
        if not all(book.has((p, q, head)) for p, q in combinations(free, 2)):
            return False
        for p, q in ties(hands, web):
            if p in free and q in nexts(hands, web, tuple(sorted(head + (p,)))):
                if book.has((min(p, q), max(p, q), head)):
                    return False
    return True


class IsLotTest(unittest.TestCase):
    def check(self, hands, lets, webs):
        book = Book(hands, list(lets))
        for web in webs:
            with self.subTest(lets=lets, web=web):
                self.assertIs(is_lot(book, web), is_lot_by_going(hands, lets, web))

    def test_every_book_of_three_hands(self):
        hands = NAMES[:3]
        lets = lets_of(hands)
        for many in range(7):
            for some in combinations(lets, many):
                self.check(hands, set(some), webs_of(hands))

    def test_every_web_of_four_hands(self):
        hands = NAMES[:4]
        webs = webs_of(hands)
        for seed, share in enumerate([0, 30, 60, 90, 100]):
            self.check(hands, set(some_lets(hands, seed, share)), webs)

    def test_webs_of_five_hands(self):
        hands = NAMES[:5]
        for seed, share in enumerate([0, 50, 90, 100]):
            self.check(hands, set(some_lets(hands, seed, share)), [web for _, web in some_webs()][seed::2])

    def test_lots_of_fair_books(self):
        for hands, lets in fair_books_of(5):
            book = Book(hands, lets)
            for rows in lots_by_going(hands, set(lets)):
                self.assertIs(is_lot(book, tuple(bound_in(rows))), True)

    def test_lots_of_any_books(self):
        told = set()
        for many in range(1, 6):
            hands = NAMES[:many]
            for seed, share in enumerate([10, 40, 70, 95]):
                lets = set(some_lets(hands, seed, share))
                for rows in lots_by_going(hands, lets)[:12]:
                    web = tuple(bound_in(rows))
                    told.add(is_lot(Book(hands, list(lets)), web))
                    self.check(hands, lets, [web])
        self.assertEqual(told, {True, False})

    def test_one_let_too_few_or_too_many(self):
        web = (("ann", "bob"), ("ann", "dan"), ("cay", "dan"))
        lets = by_web(FOUR, web).lets()
        self.assertIs(is_lot(Book(FOUR, lets), web), True)
        for let in lets_of(FOUR):
            if let in lets:
                self.assertIs(is_lot(Book(FOUR, [other for other in lets if other != let]), web), False)
            else:
                self.check(FOUR, set(lets + [let]), [web])

    def test_eight_hands(self):
        for web in [(), CHAIN, CHAINS, (("ann", "bob"),), (("hal", "ann"),), (("cay", "bob"), ("dan", "bob"))]:
            book = by_web(NAMES, web)
            self.assertIs(is_lot(book, web), True)
            for other in [Book(NAMES), Book(NAMES, lets_of(NAMES)), Book(NAMES, book.lets()[1:])]:
                self.assertIs(is_lot(other, web), is_lot_by_words(other, web))
            for let in lets_of(NAMES)[::173]:
                other = Book(NAMES, book.lets() + [let])
                self.assertIs(is_lot(other, web), is_lot_by_words(other, web))

    def test_no_web(self):
        for lets in ([], lets_of(FOUR)):
            for thing in NO_WEBS:
                with self.subTest(thing=thing):
                    self.assertIs(is_lot(Book(FOUR, lets), thing), False)
        self.assertIs(is_lot(Book(["ann"]), ()), True)
        self.assertIs(is_lot(Book(["ann"]), []), False)

    def test_by_names(self):
        self.assertIs(is_lot(thing=(), book=Book(["ann"])), True)


if __name__ == "__main__":
    unittest.main()
