"""[19] Lots of fair books, by lets alone; [2] of them."""

import time
import unittest
from itertools import combinations, permutations

from aheadbook.books import Book
from aheadbook.breaches import breaches
from aheadbook.errors import NoRow, Parted, Unfair
from aheadbook.fairlots import parted, way, web_at, webs
from aheadbook.looker import is_lot
from aheadbook.lots import lot
from aheadbook.makers import by_between, by_counts, by_pairs, by_web
from aheadbook.tallies import count_lots
from aheadbook.ways import walked
from tests.test_ways import NO_ROWS
from tests.things import (
    NAMES,
    Refusing,
    bound_in,
    fair_books_of,
    fair_lets,
    lets_of,
    lets_of_ring,
    lots_by_going,
    some_lets,
    standing_otherwise,
)

THREE = ("ann", "bob", "cay")
ROW = THREE
SIX = lets_of_ring(THREE, ())
# The rows of a lot: ann bob cay, ann cay bob, bob ann cay; the other ones stand alone.
BOOK = Book(["cay", "ann", "bob"], [("ann", "bob", ()), ("bob", "cay", ("ann",))])
TORN = Book(THREE, SIX[1:4])


def great_books():
    """Fair books of six to eight hands."""
    for many in (6, 7, 8):
        hands = NAMES[:many]
        yield Book(hands)
        yield Book(hands, lets_of(hands))
        yield by_pairs(hands, [("ann", "bob"), ("cay", "dan"), ("bob", "fay")])
        yield by_pairs(hands, combinations_but(hands, ("cay", "eve")))
        yield by_counts(hands, [0, 2, 3])
        yield by_between(hands, 1, None)
        yield by_between(hands, 1, 2)
        yield by_web(hands, (("cay", "ann"), ("dan", "ann"), ("dan", "bob")))
        for seed, share in [(1, 3), (2, 6)]:
            yield Book(hands, fair_lets(hands, some_lets(hands, seed, share)))


def combinations_but(hands, pair):
    return [other for other in combinations(hands, 2) if other != pair]


def reversed_hands(hands):
    return list(reversed(hands))


def rows_here_and_there(hands):
    """Some rows of hands, far from one another."""
    yield tuple(hands)
    yield tuple(reversed(hands))
    yield tuple(hands[1::2] + hands[::2])
    yield tuple(hands[3:] + hands[:3])
    yield tuple(reversed(hands[::2])) + tuple(hands[1::2])


def torn_books():
    """Books that are not fair, of up to eight hands."""
    for many in range(3, 9):
        hands = NAMES[:many]
        lets = lets_of(hands)
        for let in lets[::len(lets) // 3]:
            yield Book(hands, [other for other in lets if other != let])
        yield Book(hands, lets_of_ring(hands[-3:], hands[:-3])[2:5])
        six = lets_of_ring(THREE, hands[3:])
        yield Book(hands, [let for let in some_lets(hands, 5, 70) if let != six[5]] + six[:5])


class GoingTest(unittest.TestCase, Refusing):
    def test_of_three_hands(self):
        for row in [("ann", "bob", "cay"), ("ann", "cay", "bob"), ("bob", "ann", "cay")]:
            self.assertEqual(web_at(BOOK, row), (("ann", "cay"),))
        self.assertEqual(web_at(BOOK, ("bob", "cay", "ann")), (("bob", "ann"), ("bob", "cay"), ("cay", "ann")))
        self.assertEqual(
            webs(BOOK),
            [
                (("ann", "bob"), ("cay", "ann"), ("cay", "bob")),
                (("ann", "cay"),),
                (("bob", "ann"), ("bob", "cay"), ("cay", "ann")),
                (("bob", "ann"), ("cay", "ann"), ("cay", "bob")),
            ],
        )
        self.assertIs(parted(BOOK, ("bob", "ann", "cay"), ("ann", "cay", "bob")), None)
        self.assertEqual(parted(BOOK, ("bob", "ann", "cay"), ("cay", "ann", "bob")), ("ann", "cay"))
        self.assertEqual(parted(BOOK, ("cay", "ann", "bob"), ("bob", "ann", "cay")), ("ann", "bob"))
        self.assertEqual(way(BOOK, ("bob", "ann", "cay"), ("ann", "cay", "bob")), (0, 1))

    def test_just_as_going_through_rows_tells(self):
        for hands, lets in fair_books_of(5):
            book = Book(hands, lets)
            found = {}
            for rows in lots_by_going(hands, set(lets)):
                found.update(dict.fromkeys(rows, tuple(bound_in(rows))))
            for row in permutations(hands):
                told = web_at(book, row)
                self.assertIs(told.__class__, tuple)
                self.assertEqual(told, found[row])
            told = webs(book)
            self.assertIs(told.__class__, list)
            self.assertEqual(told, sorted(set(found.values())))
            self.parts(book, found)

    def parts(self, book, found):
        rows = sorted(found)
        for one in rows[::23]:
            for other in rows[::5]:
                broken = [(a, b) for a, b in found[one] if other.index(b) < other.index(a)]
                self.assertEqual(broken == [], found[one] == found[other])
                self.assertEqual(parted(book, one, other), broken[0] if broken else None)
                self.leads(book, one, other, broken)

    def leads(self, book, one, other, broken):
        if broken:
            return self.refused(Parted, {"pair": broken[0]}, way, book, one, other)
        told = way(book, one, other)
        self.assertIs(told.__class__, tuple)
        self.assertEqual(len(told), standing_otherwise(one, other))
        return self.assertEqual(walked(book, one, told)[-1], other)

    def test_six_hands(self):
        for book in great_books():
            if len(book.hands()) == 6:
                for row in rows_here_and_there(book.hands()):
                    rows = lot(book, row)
                    self.assertEqual(web_at(book, row), tuple(bound_in(rows)))
                    for other in rows[::37]:
                        self.leads(book, row, other, [])

    def test_webs_of_six_hands(self):
        six = NAMES[:6]
        for lets in [lets_of(six), fair_lets(six, some_lets(six, 2, 12)), by_counts(six, [0, 1, 3, 4]).lets()]:
            wanted = sorted(tuple(bound_in(rows)) for rows in lots_by_going(six, set(lets)))
            self.assertEqual(webs(Book(six, lets)), wanted)


class GreatTest(unittest.TestCase, Refusing):
    def test_each_lot_is_one_for_the_looker(self):
        for book in great_books():
            rows = list(rows_here_and_there(book.hands()))
            for one in rows:
                web = web_at(book, one)
                self.assertIs(is_lot(book, web), True)
                self.assertTrue(all(one.index(a) < one.index(b) for a, b in web))
                for other in rows:
                    broken = [(a, b) for a, b in web if other.index(b) < other.index(a)]
                    self.assertEqual(parted(book, one, other), broken[0] if broken else None)
                    self.leads(book, one, other, broken)

    def leads(self, book, one, other, broken):
        if broken:
            return self.refused(Parted, {"pair": broken[0]}, way, book, one, other)
        told = way(book, one, other)
        self.assertEqual(len(told), standing_otherwise(one, other))
        return self.assertEqual(walked(book, one, told)[-1], other)

    def test_a_few_lots_of_seven_and_eight(self):
        for many in (7, 8):
            hands = NAMES[:many]
            self.assertEqual(webs(Book(hands, lets_of(hands))), [()])
            book = by_pairs(hands, combinations_but(hands, ("cay", "eve")))
            self.assertEqual(webs(book), [(("cay", "eve"),), (("eve", "cay"),)])
            book = by_counts(hands, range(1, many))
            told = webs(book)
            self.assertEqual(told, sorted(
                tuple((first, hand) for hand in hands if hand != first) for first in hands
            ))
            self.assertEqual(count_lots(book), many)

    def test_each_in_a_short_time(self):
        # Going through the 40320 rows of the lot each time would take far longer.
        book = Book(NAMES, lets_of(NAMES))
        begun = time.perf_counter()
        for _ in range(20):
            for row in rows_here_and_there(NAMES):
                self.assertEqual(web_at(book, row), ())
                self.assertIs(parted(book, row, NAMES), None)
                way(book, row, NAMES)
        self.assertLess(time.perf_counter() - begun, 60)


class OftenTest(unittest.TestCase):
    """All lots' webs, asked of many books in a row."""

    def books(self):
        five, six = ["a", "b", "c", "d", "e"], ["a", "b", "c", "d", "e", "f"]
        yield Book(five, [])
        yield by_counts(five, [1])
        yield by_counts(six, [2, 3])
        yield by_counts(six, [1, 2, 3])
        yield by_counts(six, [0, 4])
        yield by_counts(six, [0, 1, 2, 3, 4])
        yield by_between(six, 1, None)
        yield by_between(five, 1, 1, both=True)
        yield by_pairs(six, [("a", "b"), ("d", "c"), ("e", "f"), ("a", "f")])
        yield by_web(five, (("b", "a"), ("b", "d"), ("c", "d")))
        for seed, share in [(1, 10), (2, 20), (3, 25)]:
            yield Book(reversed_hands(six), fair_lets(six, some_lets(six, seed, share)))
            yield Book(five, fair_lets(five, some_lets(five, seed, share)))

    def test_as_lots_gone_through_row_by_row(self):
        for book in self.books():
            wanted = sorted(tuple(bound_in(rows)) for rows in lots_by_going(book.hands(), set(book.lets())))
            told = webs(book)
            self.assertEqual(told, wanted)
            told.reverse()
            del told[1:]
            self.assertEqual(webs(book), wanted)

    def test_in_a_short_time(self):
        # Leading the hands of each row past one another one by one took several times as long.
        books = list(self.books())[:4]
        begun = time.perf_counter()
        for _ in range(100):
            for book in books:
                webs(book)
        self.assertLess(time.perf_counter() - begun, 3)


class RefusedTest(unittest.TestCase, Refusing):
    def test_a_book_that_is_not_fair(self):
        for book in torn_books():
            breach = {"breach": breaches(book)[0]}
            rows = list(rows_here_and_there(book.hands()))
            for row in rows:
                self.refused(Unfair, breach, web_at, book, row)
                self.refused(Unfair, breach, parted, book, rows[0], row)
                self.refused(Unfair, breach, way, book, row, rows[0])
            self.refused(Unfair, breach, webs, book)

    def test_the_breach_is_the_first(self):
        self.refused(Unfair, {"breach": (THREE, (), 1, 3)}, webs, TORN)
        lets = lets_of_ring(("bob", "cay", "dan"), ())[:3] + lets_of_ring(THREE, ("dan",))[:4]
        book = Book(NAMES[:4], lets)
        self.refused(Unfair, {"breach": (THREE, ("dan",), 0, 4)}, web_at, book, NAMES[:4])

    def test_no_row_goes_first(self):
        for book in (BOOK, TORN):
            for thing in NO_ROWS:
                with self.subTest(thing=thing):
                    asked = {"asked": thing}
                    self.refused(NoRow, asked, web_at, book, thing)
                    for call in (parted, way):
                        self.refused(NoRow, asked, call, book, thing, ROW)
                        self.refused(NoRow, asked, call, book, ROW, thing)
                        self.refused(NoRow, asked, call, book, thing, "neither")


class OwnTest(unittest.TestCase):
    def test_a_told_list_is_the_askers_own(self):
        told = webs(BOOK)
        told.append("more")
        del told[0]
        self.assertEqual(len(webs(BOOK)), 4)
        self.assertEqual(BOOK, Book(THREE, [("ann", "bob", ()), ("bob", "cay", ("ann",))]))

    def test_one_hand(self):
        book = Book(["ann"])
        self.assertEqual(web_at(book, ("ann",)), ())
        self.assertIs(parted(book, ("ann",), ("ann",)), None)
        self.assertEqual(way(book, ("ann",), ("ann",)), ())
        self.assertEqual(webs(book), [()])

    def test_by_names(self):
        self.assertEqual(web_at(row=ROW, book=BOOK), (("ann", "cay"),))
        self.assertIs(parted(other=ROW, one=ROW, book=BOOK), None)
        self.assertEqual(way(other=("bob", "ann", "cay"), one=ROW, book=BOOK), (0,))
        self.assertEqual(len(webs(book=BOOK)), 4)


if __name__ == "__main__":
    unittest.main()
