"""[20] How many lots there are; [2] of them."""

import time
import unittest
from itertools import combinations
from math import factorial

from aheadbook.books import Book
from aheadbook.breaches import breaches
from aheadbook.errors import NoHead, Unfair
from aheadbook.heads import heads
from aheadbook.makers import by_between, by_counts, by_pairs, by_web
from aheadbook.tallies import behind, count_lots, count_lots_by, is_behind
from tests.test_fairlots import BOOK, THREE, TORN, great_books, torn_books
from tests.things import (
    NAMES,
    NOTHINGS,
    Refusing,
    bound_in,
    fair_books_of,
    fair_lets,
    lets_of,
    lots_by_going,
    sets_of,
    some_lets,
)

TABLE = {
    ("ann", "bob", "cay"): 1,
    ("ann", "bob"): 1,
    ("ann", "cay"): 1,
    ("bob", "cay"): 1,
    ("ann",): 1,
    ("bob",): 2,
    ("cay",): 2,
    (): 4,
}
# Of BOOK, a set of whose hands it is none.
NO_SETS = NOTHINGS + [
    [],
    ["ann"],
    ("bob", "ann"),
    ("ann", "ann"),
    ("dan",),
    ("ann", "dan"),
    ("Ann",),
    ("ann", "bob", "cay", "dan"),
    (("ann",),),
    ("ann", ["bob"]),
    "bob",
    {"ann": "ann"},
]


def wholly(lets, members, ahead):
    """Whether a set of others is wholly let at a set, as the words tell."""
    return all(
        (p, q, tuple(sorted(ahead + some))) in lets
        for p, q in combinations(members, 2)
        for some in sets_of([hand for hand in members if hand not in (p, q)])
    )


def table_by_words(hands, lets):
    """The table of the sums, as the words tell."""
    table = {tuple(hands): 1}
    for many in range(len(hands) - 1, -1, -1):
        for ahead in combinations(hands, many):
            table[ahead] = sum(
                -(-1) ** len(members) * table[tuple(sorted(ahead + members))]
                for members in sets_of([hand for hand in hands if hand not in ahead])
                if members and wholly(lets, members, ahead)
            )
    return table


def behind_by_going(hands, lets, ahead):
    """The lots of the rows of the other hands, with these ahead in one order."""
    others = [hand for hand in hands if hand not in ahead]
    after = {
        (p, q, some)
        for p, q, some in lets_of(others)
        if (p, q, tuple(sorted(ahead + some))) in lets
    }
    return len(lots_by_going(others, after))


class BehindTest(unittest.TestCase, Refusing):
    def test_of_three_hands(self):
        told = behind(BOOK)
        self.assertIs(told.__class__, dict)
        self.assertEqual(told, TABLE)

    def test_by_the_words_and_by_going_through_rows(self):
        for hands, lets in fair_books_of(5):
            book, held = Book(hands, lets), set(lets)
            told = behind(book)
            self.assertEqual(told, table_by_words(hands, held))
            for ahead in sets_of(hands):
                self.assertIs(told[ahead].__class__, int)
                self.assertEqual(told[ahead], behind_by_going(hands, held, ahead))

    def test_the_greater_sets_first_each_once(self):
        for hands, lets in fair_books_of(4):
            told = list(behind(Book(hands, lets)))
            self.assertEqual(sorted(told), sets_of(hands))
            self.assertEqual([len(ahead) for ahead in told], sorted((len(ahead) for ahead in told), reverse=True))

    def test_six_to_eight_hands(self):
        for book in great_books():
            if len(book.hands()) == 6 or len(book) == 0:
                self.assertEqual(behind(book), table_by_words(book.hands(), set(book.lets())))

    def test_refuses_a_book_that_is_not_fair(self):
        for book in torn_books():
            self.refused(Unfair, {"breach": breaches(book)[0]}, behind, book)

    def test_a_told_dict_is_the_askers_own(self):
        told = behind(BOOK)
        told[()] = None
        del told[("ann",)]
        self.assertEqual(behind(BOOK), TABLE)

    def test_by_names(self):
        self.assertEqual(behind(book=BOOK), TABLE)


class IsBehindTest(unittest.TestCase):
    def test_that_table_alone(self):
        for hands, lets in fair_books_of(4):
            book = Book(hands, lets)
            table = behind(book)
            self.assertIs(is_behind(book, table), True)
            self.assertIs(is_behind(book, dict(sorted(table.items()))), True)
            for ahead in table:
                for number in (table[ahead] + 1, table[ahead] - 1, -table[ahead], 10 ** 29):
                    self.assertIs(is_behind(book, {**table, ahead: number}), False)

    def test_of_books_that_are_not_fair(self):
        lots = set()
        for many in range(3, 6):
            hands = NAMES[:many]
            for seed, share in enumerate([20, 45, 60, 75, 90]):
                lets = some_lets(hands, seed, share)
                book = Book(hands, lets)
                table = table_by_words(hands, set(lets))
                self.assertIs(is_behind(book, table), True)
                self.assertIs(is_behind(book, {**table, (): table[()] + 1}), False)
                lots.add(table[()] == len(lots_by_going(hands, set(lets))))
        # There the sums need not be numbers of lots.
        self.assertEqual(lots, {True, False})
        # Three lets in a row run four rows into one lot: three are left; the sums tell another number.
        self.assertIs(is_behind(TORN, table_by_words(THREE, set(TORN.lets()))), True)

    def test_of_eight_hands(self):
        lets = some_lets(NAMES, 1, 70)
        for book in [Book(NAMES), Book(NAMES, lets), Book(NAMES, lets_of(NAMES))]:
            table = table_by_words(NAMES, set(book.lets()))
            self.assertIs(is_behind(book, table), True)
            table[("bob", "gus")] += 1
            self.assertIs(is_behind(book, table), False)

    def test_a_set_left_out_or_a_key_more(self):
        for ahead in TABLE:
            self.assertIs(is_behind(BOOK, {key: TABLE[key] for key in TABLE if key != ahead}), False)
        for key in [None, 1, "ann", ("dan",), ("bob", "ann"), ("ann", "ann"), ("ann", ("bob",)), (None,), ((),)]:
            self.assertIs(is_behind(BOOK, {**TABLE, key: 1}), False)
        keys = [key for key in TABLE if key != ("ann", "bob")]
        self.assertIs(is_behind(BOOK, {**{key: TABLE[key] for key in keys}, ("bob", "ann"): 1}), False)

    def test_what_is_no_whole_number(self):
        for ahead in TABLE:
            for number in [True, False, None, "1", (), [], [1], {}, (1,)]:
                self.assertIs(is_behind(BOOK, {**TABLE, ahead: number}), False)
        # As == tells, these are the numbers told.
        self.assertEqual({**TABLE, ("ann",): True}, TABLE)
        self.assertIs(is_behind(Book(["ann"]), {(): 1, ("ann",): 1}), True)
        self.assertIs(is_behind(Book(["ann"]), {(): 1, ("ann",): True}), False)
        self.assertIs(is_behind(Book(["ann"]), {(): True, ("ann",): 1}), False)

    def test_of_anything(self):
        for book in (BOOK, TORN, Book(["ann"])):
            for thing in NOTHINGS + [(), [], 1, list(TABLE), tuple(TABLE), list(TABLE.items()), [TABLE], (TABLE,)]:
                with self.subTest(thing=thing):
                    self.assertIs(is_behind(book, thing), False)

    def test_what_is_handed_in_stays(self):
        table = dict(TABLE)
        is_behind(BOOK, table)
        self.assertEqual(list(table.items()), list(TABLE.items()))

    def test_by_names(self):
        self.assertIs(is_behind(thing=TABLE, book=BOOK), True)


class OftenTest(unittest.TestCase, Refusing):
    """Tables of six to eight hands, asked of many books in a row."""

    def books(self):
        for many in (6, 7, 8):
            hands = NAMES[:many]
            yield by_counts(hands, range(many - 1))
            yield by_counts(hands, [0, 1, many - 2])
            yield by_pairs(hands, [("ann", "bob"), ("bob", "cay"), ("ann", "cay"), ("eve", "fay")])
            yield by_between(hands, 1, None)
            yield by_web(hands, (("cay", "ann"), ("dan", "ann"), ("dan", "bob")))
            yield Book(hands, fair_lets(hands, some_lets(hands, many, 8)))

    def test_the_sums_as_the_words_tell(self):
        for book in self.books():
            hands, lets = book.hands(), set(book.lets())
            table = table_by_words(hands, lets)
            told = behind(book)
            self.assertEqual(told, table)
            self.assertEqual(list(told), sorted(sets_of(hands), key=len, reverse=True))
            self.assertIs(is_behind(book, told), True)
            self.assertEqual(count_lots(book), table[()])
            for head in [(), hands, hands[:2], hands[1:4], hands[::3], hands[2:]]:
                own = [let for let in lets if {*let[:2], *let[2]} <= set(head)]
                before = table_by_words(head, set(own))[()]
                self.assertEqual(count_lots_by(book, head), table[head] * before)
            told.clear()
            self.assertEqual(behind(book), table)

    def test_in_a_short_time(self):
        # Asking the book let by let for each set took several times as long.
        book = by_counts(list("abcdefgh"), range(7))
        begun = time.perf_counter()
        for _ in range(50):
            self.assertIs(is_behind(book, behind(book)), True)
            self.assertEqual(count_lots_by(book, ("a", "b")), 1)
            self.assertEqual(count_lots(book), 1)
        self.assertLess(time.perf_counter() - begun, 2)


class CountTest(unittest.TestCase, Refusing):
    def test_of_three_hands(self):
        self.assertEqual(count_lots(BOOK), 4)
        self.assertEqual(count_lots_by(BOOK, ()), 4)
        self.assertEqual(count_lots_by(BOOK, ("ann",)), 1)
        self.assertEqual(count_lots_by(BOOK, ("bob",)), 2)
        self.assertEqual(count_lots_by(BOOK, ("ann", "bob")), 1)
        self.assertEqual(count_lots_by(BOOK, ("bob", "cay")), 2)
        self.assertEqual(count_lots_by(BOOK, ("ann", "bob", "cay")), 4)

    def test_by_going_through_rows(self):
        for hands, lets in fair_books_of(5):
            book = Book(hands, lets)
            found = [tuple(bound_in(rows)) for rows in lots_by_going(hands, set(lets))]
            self.assertEqual(count_lots(book), len(found))
            told = [heads(hands, web) for web in found]
            for head in sets_of(hands):
                self.assertEqual(count_lots_by(book, head), sum(head in some for some in told))

    def test_of_eight_hands(self):
        self.assertEqual(count_lots(Book(NAMES)), 40320)
        self.assertEqual(count_lots_by(Book(NAMES), NAMES[::2]), factorial(4) ** 2)
        self.assertEqual(count_lots(Book(NAMES, lets_of(NAMES))), 1)
        self.assertEqual(count_lots_by(Book(NAMES, lets_of(NAMES)), NAMES[:3]), 1)
        # Ann and bob change places anywhere: of two rows with ann and bob beside one another, one lot.
        book = by_pairs(NAMES, [("ann", "bob")])
        self.assertEqual(count_lots(book), factorial(8) - factorial(7))
        self.assertEqual(count_lots_by(book, ("ann", "bob")), factorial(6))
        self.assertEqual(count_lots_by(book, ("ann", "cay")), 2 * factorial(6))
        # Just who stands first is told.
        book = by_counts(NAMES, [1, 2, 3, 4, 5, 6])
        self.assertEqual(count_lots(book), 8)
        self.assertEqual(count_lots_by(book, ("ann", "bob")), 2)

    def test_no_head_goes_first(self):
        for book in (BOOK, TORN):
            for thing in NO_SETS:
                with self.subTest(thing=thing):
                    self.refused(NoHead, {"asked": thing}, count_lots_by, book, thing)

    def test_refuses_a_book_that_is_not_fair(self):
        for book in torn_books():
            breach = {"breach": breaches(book)[0]}
            self.refused(Unfair, breach, count_lots, book)
            for head in [(), book.hands(), book.hands()[1:], book.hands()[:1]]:
                self.refused(Unfair, breach, count_lots_by, book, head)

    def test_by_names(self):
        self.assertEqual(count_lots(book=BOOK), 4)
        self.assertEqual(count_lots_by(head=("bob",), book=BOOK), 2)


if __name__ == "__main__":
    unittest.main()
