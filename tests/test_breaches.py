"""[13] Fair books and breaches; [14] what a breach shows; [2] of them."""

import unittest
from itertools import permutations

from aheadbook.books import Book
from aheadbook.breaches import breaches, is_breach, is_fair, shown
from aheadbook.errors import NoBreach
from aheadbook.lots import bound, lot
from aheadbook.makers import by_between, by_counts, by_pairs, by_web
from aheadbook.rows import changed, let_at
from aheadbook.ways import walked
from tests.things import (
    NAMES,
    NOTHINGS,
    Refusing,
    all_rings,
    fair_lets,
    lets_of,
    lets_of_ring,
    orders_of,
    some_lets,
)

THREE = ("ann", "bob", "cay")
SIX = lets_of_ring(THREE, ())
# Three lets in a row, from the ring's last one on.
BOOK = Book(["cay", "bob", "ann"], [SIX[5], SIX[0], SIX[1]])
BREACH = (THREE, (), 5, 3)
# Of BOOK.
NO_BREACHES = NOTHINGS + [
    (),
    [],
    list(BREACH),
    [BREACH],
    (BREACH,),
    BREACH[:3],
    BREACH + (0,),
    (THREE, (), 5, 4),
    (THREE, (), 5, 2),
    (THREE, (), 5, True),
    (THREE, (), 5, None),
    (THREE, (), 5, "3"),
    (THREE, (), 5, [3]),
    (THREE, (), 0, 3),
    (THREE, (), 0, 2),
    (THREE, (), 4, 3),
    (THREE, (), 2, 3),
    (THREE, (), -1, 3),
    (THREE, (), 11, 3),
    (THREE, (), 6, 3),
    (THREE, (), 10 ** 29, 3),
    (THREE, (), None, 3),
    (THREE, (), "5", 3),
    (THREE, (), (5,), 3),
    (THREE, (), {}, 3),
    (THREE, [], 5, 3),
    (THREE, None, 5, 3),
    (THREE, "", 5, 3),
    (THREE, ("ann",), 5, 3),
    (THREE, ("dan",), 5, 3),
    (list(THREE), (), 5, 3),
    (("ann", "bob"), (), 5, 3),
    (("ann", "bob", "cay", "dan"), (), 5, 3),
    (("ann", "cay", "bob"), (), 5, 3),
    (("ann", "bob", "zoe"), (), 5, 3),
    (("ann", "bob", ["cay"]), (), 5, 3),
    (None, (), 5, 3),
    ("ann bob cay", (), 5, 3),
    (5, 3, THREE, ()),
]


def gap(told, start):
    """The number, counted on from start, of the first let that a ring of these marks lacks; None without one."""
    lacked = [k for k in range(6) if not told[(start + k) % 6]]
    return lacked[0] if lacked else None


def all_breaches(hands, lets):
    """All breaches, with each start that fits, rising."""
    found = []
    for three, ahead in all_rings(hands):
        told = [let in lets for let in lets_of_ring(three, ahead)]
        for start in range(6):
            if gap(told, start) in (3, 4, 5):
                found.append((three, ahead, start, gap(told, start)))
    return found


def firsts(found):
    """Of each ring the breach with the least start."""
    least = {}
    for breach in found:
        least.setdefault(breach[:2], breach)
    return sorted(least.values())


def books_of(most):
    for many in range(1, most + 1):
        for seed, share in enumerate([0, 15, 30, 50, 65, 80, 95, 100]):
            yield NAMES[:many], some_lets(NAMES[:many], seed, share)


class BreachesTest(unittest.TestCase):
    def test_every_book_of_three_hands(self):
        for number in range(64):
            lets = [SIX[k] for k in range(6) if number >> k & 1]
            book = Book(["bob", "cay", "ann"], lets)
            wanted = all_breaches(THREE, lets)
            self.assertEqual(breaches(book), wanted[:1])
            self.assertIs(is_fair(book), wanted == [])
            for start in range(-7, 13):
                for no in range(-1, 13):
                    breach = (THREE, (), start, no)
                    self.assertIs(is_breach(book, breach), breach in wanted)

    def test_of_three_hands(self):
        told = breaches(BOOK)
        self.assertIs(told.__class__, list)
        self.assertEqual(told, [BREACH])
        self.assertEqual(breaches(Book(THREE, SIX[:5])), [(THREE, (), 0, 5)])
        self.assertEqual(breaches(Book(THREE, SIX[1:])), [(THREE, (), 1, 5)])
        self.assertEqual(breaches(Book(THREE, SIX[:2] + SIX[3:])), [(THREE, (), 3, 5)])
        self.assertEqual(breaches(Book(THREE, SIX[:4])), [(THREE, (), 0, 4)])
        self.assertEqual(breaches(Book(THREE, SIX)), [])
        self.assertEqual(breaches(Book(THREE, SIX[:2] + SIX[3:5])), [])

    def test_books_here_and_there(self):
        for hands, lets in books_of(6):
            book = Book(hands, lets)
            wanted = all_breaches(hands, set(lets))
            self.assertEqual(breaches(book), firsts(wanted))
            self.assertIs(is_fair(book), wanted == [])
            for breach in wanted:
                self.assertIs(is_breach(book, breach), True)

    def test_made_books_are_fair_or_not_as_their_rings_tell(self):
        five = NAMES[:5]
        for book in [
            by_pairs(five, [("ann", "bob"), ("cay", "dan")]),
            by_counts(five, [0, 2]),
            by_between(five, 1, None),
            by_between(five, 1, 1),
            by_web(five, (("ann", "bob"), ("cay", "dan"))),
        ]:
            self.assertEqual(breaches(book), firsts(all_breaches(five, set(book.lets()))))

    def test_fair_books_of_up_to_eight(self):
        for many in range(1, 9):
            hands = NAMES[:many]
            for seed, share in [(1, 0), (2, 4), (3, 12), (4, 100)]:
                book = Book(hands, fair_lets(hands, some_lets(hands, seed, share)))
                self.assertIs(is_fair(book), True)
                self.assertEqual(breaches(book), [])

    def test_eight_hands_and_one_let_lacked(self):
        for let in lets_of(NAMES)[::97]:
            lets = lets_of(NAMES)
            lets.remove(let)
            book = Book(NAMES, lets)
            self.assertIs(is_fair(book), False)
            self.assertEqual(breaches(book), firsts(all_breaches(NAMES, set(lets))))

    def test_a_told_list_is_the_askers_own(self):
        told = breaches(BOOK)
        told.append("more")
        told[0] = None
        self.assertEqual(breaches(BOOK), [BREACH])
        self.assertEqual(BOOK, Book(THREE, [SIX[5], SIX[0], SIX[1]]))

    def test_by_names(self):
        self.assertEqual(breaches(book=BOOK), [BREACH])
        self.assertIs(is_fair(book=BOOK), False)


class IsBreachTest(unittest.TestCase):
    def test_another_start_that_fits(self):
        book = Book(THREE, SIX[:5])
        for breach in [(THREE, (), 0, 5), (THREE, (), 1, 4), (THREE, (), 2, 3)]:
            self.assertIs(is_breach(book, breach), True)
        for breach in [(THREE, (), 3, 2), (THREE, (), 4, 1), (THREE, (), 5, 0), (THREE, (), 1, 5), (THREE, (), 0, 4)]:
            self.assertIs(is_breach(book, breach), False)

    def test_nothing_else(self):
        self.assertIs(is_breach(BOOK, BREACH), True)
        for thing in NO_BREACHES:
            with self.subTest(thing=thing):
                self.assertIs(is_breach(BOOK, thing), False)

    def test_a_truth_is_no_start(self):
        book = Book(THREE, [SIX[1], SIX[2], SIX[3]])
        self.assertIs(is_breach(book, (THREE, (), 1, 3)), True)
        self.assertIs(is_breach(book, (THREE, (), True, 3)), False)
        other = Book(THREE, [SIX[0], SIX[1], SIX[2]])
        self.assertIs(is_breach(other, (THREE, (), 0, 3)), True)
        self.assertIs(is_breach(other, (THREE, (), False, 3)), False)

    def test_none_of_a_fair_book(self):
        for lets in ([], SIX, SIX[:2]):
            for start in range(6):
                for no in range(7):
                    self.assertIs(is_breach(Book(THREE, lets), (THREE, (), start, no)), False)

    def test_by_names(self):
        self.assertIs(is_breach(thing=BREACH, book=BOOK), True)


class ShownTest(unittest.TestCase, Refusing):
    def test_of_three_hands(self):
        told = shown(BOOK, BREACH)
        self.assertIs(told.__class__, tuple)
        self.assertEqual(told, (("ann", "cay", "bob"), (1, 0, 1), ("cay", "bob", "ann")))

    def test_behind_some_ahead_of_some(self):
        hands = ["fay", "eve", "dan", "cay", "bob", "ann"]
        three, ahead = ("ann", "dan", "eve"), ("bob", "fay")
        six = lets_of_ring(three, ahead)
        self.assertEqual(
            shown(Book(hands, six[2:]), (three, ahead, 2, 4)),
            (("bob", "fay", "dan", "eve", "ann", "cay"), (2, 3, 2, 3), ("bob", "fay", "dan", "ann", "eve", "cay")),
        )

    def test_each_breach_of_books_here_and_there(self):
        for hands, lets in books_of(5):
            book = Book(hands, lets)
            for breach in all_breaches(hands, set(lets)):
                self.shows(book, breach)

    def shows(self, book, breach):
        three, ahead, start, no = breach
        row, way, other = shown(book, breach)
        rest = tuple(hand for hand in book.hands() if hand not in three + ahead)
        self.assertEqual(row, ahead + orders_of(three)[start] + rest)
        self.assertEqual(len(way), no)
        last = walked(book, row, way)[-1]
        at = len(ahead) + (start + no) % 2
        self.assertEqual(changed(last, at), other)
        self.assertEqual(let_at(last, at), lets_of_ring(three, ahead)[(start + no) % 6])
        self.assertIs(book.has(let_at(last, at)), False)
        self.assertEqual([spot for spot in way if spot not in (len(ahead), len(ahead) + 1)], [])
        # What the first row of [4] says: other keeps what is bound in the lot.
        self.assertTrue(all(other.index(a) < other.index(b) for a, b in bound(lot(book, row))))

    def test_eight_hands(self):
        lets = lets_of(NAMES)
        lets.remove(("bob", "gus", ("dan", "hal")))
        book = Book(NAMES, lets)
        for breach in breaches(book):
            three, ahead, start, no = breach
            row, way, other = shown(book, breach)
            last = walked(book, row, way)[-1]
            at = len(ahead) + (start + no) % 2
            self.assertEqual(let_at(last, at), ("bob", "gus", ("dan", "hal")))
            self.assertEqual(changed(last, at), other)

    def test_refuses_what_is_no_breach(self):
        for thing in NO_BREACHES:
            with self.subTest(thing=thing):
                self.refused(NoBreach, {"asked": thing}, shown, BOOK, thing)
        for start in range(6):
            thing = (THREE, (), start, 3)
            self.refused(NoBreach, {"asked": thing}, shown, Book(THREE, SIX), thing)

    def test_what_is_refused_is_kept_as_a_copy(self):
        thing = (THREE, (), [5], {"no": [3]})
        with self.assertRaises(NoBreach) as caught:
            shown(BOOK, thing)
        caught.exception.asked[2].append("more")
        caught.exception.asked[3]["no"].append("more")
        self.assertEqual(thing, (THREE, (), [5], {"no": [3]}))

    def test_by_names(self):
        self.assertEqual(shown(breach=BREACH, book=BOOK), shown(BOOK, BREACH))


class OrdersTest(unittest.TestCase):
    def test_the_orders_are_all_six(self):
        # The tests above lean on them.
        self.assertEqual(sorted(orders_of(THREE)), sorted(permutations(THREE)))


if __name__ == "__main__":
    unittest.main()
