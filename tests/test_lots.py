"""[11] Lots by going, fewest changes, bound pairs; [2] of them."""

import unittest
from itertools import permutations

from aheadbook.books import Book
from aheadbook.errors import NoRow
from aheadbook.lots import bound, fewest, lot, lots, nearest
from tests.test_ways import NO_ROWS
from tests.things import NAMES, Refusing, bound_in, let_steps, lets_of, lots_by_going, some_lets, spread

HANDS = ["cay", "ann", "bob"]
LETS = [("ann", "bob", ()), ("ann", "cay", ("bob",)), ("bob", "cay", ())]
BOOK = Book(HANDS, LETS)
LOT = [("ann", "bob", "cay"), ("bob", "ann", "cay"), ("bob", "cay", "ann"), ("cay", "bob", "ann")]
LONE = [[("ann", "cay", "bob")], [("cay", "ann", "bob")]]


def books_of(most):
    """Hands and lets, here and there."""
    for many in range(1, most + 1):
        for seed, share in enumerate([0, 20, 40, 60, 80, 100]):
            yield NAMES[:many], some_lets(NAMES[:many], seed, share)


class LotsTest(unittest.TestCase, Refusing):
    def test_of_three_hands(self):
        for row in LOT:
            told = lot(BOOK, row)
            self.assertIs(told.__class__, list)
            self.assertEqual(told, LOT)
        for rows in LONE:
            self.assertEqual(lot(BOOK, rows[0]), rows)
        self.assertEqual(lots(BOOK), [LOT] + LONE)

    def test_just_as_going_tells(self):
        for hands, lets in books_of(5):
            book = Book(hands, lets)
            wanted = [list(rows) for rows in lots_by_going(hands, set(lets))]
            told = lots(book)
            self.assertIs(told.__class__, list)
            self.assertTrue(all(rows.__class__ is list for rows in told))
            self.assertEqual(told, wanted)
            self.assertEqual(sorted(row for rows in told for row in rows), sorted(permutations(hands)))
            for rows in told:
                self.assertEqual(rows, sorted(rows))
                for row in rows[::7]:
                    self.assertEqual(lot(book, row), rows)

    def test_six_hands(self):
        six = NAMES[:6]
        self.assertEqual(lots(Book(six)), [[row] for row in permutations(six)])
        self.assertEqual(lots(Book(six, lets_of(six))), [list(permutations(six))])
        lets = set(some_lets(six, 7, 40))
        self.assertEqual(lots(Book(six, list(lets))), [list(rows) for rows in lots_by_going(six, lets)])

    def test_refuses_what_is_no_row(self):
        for thing in NO_ROWS:
            with self.subTest(thing=thing):
                self.refused(NoRow, {"asked": thing}, lot, BOOK, thing)

    def test_a_told_list_is_the_askers_own(self):
        told = lot(BOOK, LOT[0])
        told.append("more")
        del told[0]
        all_told = lots(BOOK)
        all_told[0].append("more")
        del all_told[1]
        self.assertEqual(lot(BOOK, LOT[0]), LOT)
        self.assertEqual(lots(BOOK), [LOT] + LONE)

    def test_by_names(self):
        self.assertEqual(lot(row=LOT[1], book=BOOK), LOT)
        self.assertEqual(lots(book=BOOK), [LOT] + LONE)


class FewestTest(unittest.TestCase, Refusing):
    def test_of_three_hands(self):
        self.assertEqual(fewest(BOOK, LOT[0], LOT[3]), 3)
        self.assertEqual(nearest(BOOK, LOT[0], LOT[3]), (0, 1, 0))
        self.assertEqual(fewest(BOOK, LOT[2], LOT[1]), 1)
        self.assertEqual(nearest(BOOK, LOT[2], LOT[1]), (1,))
        self.assertIs(fewest(BOOK, LOT[0], ("ann", "cay", "bob")), None)
        self.assertIs(nearest(BOOK, LOT[0], ("ann", "cay", "bob")), None)

    def test_from_a_row_to_itself(self):
        for hands, lets in books_of(6):
            row = tuple(reversed(hands))
            self.assertEqual(repr(fewest(Book(hands, lets), row, row)), "0")
            self.assertEqual(nearest(Book(hands, lets), row, row), ())

    def test_just_as_going_tells(self):
        for hands, lets in books_of(5):
            book = Book(hands, lets)
            rows = list(permutations(hands))
            for one in rows[::17]:
                far = spread(set(lets), one)
                for other in rows[::3] + [one]:
                    self.assertEqual(fewest(book, one, other), far.get(other))
                    self.leads(book, set(lets), one, other, far.get(other))

    def leads(self, book, lets, one, other, far):
        way = nearest(book, one, other)
        if far is None:
            return self.assertIs(way, None)
        self.assertIs(way.__class__, tuple)
        self.assertEqual(len(way), far)
        row = one
        for place in way:
            row = dict(let_steps(lets, row))[place]
        return self.assertEqual(row, other)

    def test_longer_than_the_rows_are_far(self):
        # All of a ring but one let: the row behind that one change is reached the long way round.
        lets = lets_of(HANDS)
        lets.remove(("ann", "bob", ()))
        book = Book(HANDS, lets)
        self.assertEqual(fewest(book, ("ann", "bob", "cay"), ("bob", "ann", "cay")), 5)
        self.assertEqual(nearest(book, ("ann", "bob", "cay"), ("bob", "ann", "cay")), (1, 0, 1, 0, 1))

    def test_refuses_the_first_that_is_no_row(self):
        for thing in NO_ROWS:
            for call in (fewest, nearest):
                with self.subTest(thing=thing, call=call):
                    self.refused(NoRow, {"asked": thing}, call, BOOK, thing, LOT[0])
                    self.refused(NoRow, {"asked": thing}, call, BOOK, LOT[0], thing)
                    self.refused(NoRow, {"asked": thing}, call, BOOK, thing, "neither")

    def test_by_names(self):
        self.assertEqual(fewest(other=LOT[1], one=LOT[0], book=BOOK), 1)
        self.assertEqual(nearest(other=LOT[1], one=LOT[0], book=BOOK), (0,))


class BoundTest(unittest.TestCase):
    def test_of_one_row(self):
        for many in range(1, 9):
            row = tuple(reversed(NAMES[:many]))
            wanted = [(NAMES[k], NAMES[j]) for k in range(many) for j in range(k)]
            self.assertEqual(bound([row]), wanted)
            self.assertEqual(bound([row, row]), wanted)

    def test_of_some_rows_in_any_order_some_twice(self):
        rows = [("cay", "ann", "dan", "bob"), ("cay", "dan", "ann", "bob"), ("dan", "ann", "cay", "bob")]
        wanted = [("ann", "bob"), ("cay", "bob"), ("dan", "bob")]
        for given in [rows, rows[::-1], rows[1:] + rows[:2], rows + rows]:
            told = bound(given)
            self.assertIs(told.__class__, list)
            self.assertEqual(told, wanted)

    def test_none_of_a_row_and_the_one_from_behind(self):
        for many in range(1, 9):
            self.assertEqual(bound([NAMES[:many], tuple(reversed(NAMES[:many]))]), [])

    def test_of_lots(self):
        for hands, lets in books_of(5):
            for rows in lots(Book(hands, lets)):
                self.assertEqual(bound(rows), bound_in(rows))
                self.assertEqual(bound(rows[::-1]), bound_in(rows))

    def test_what_is_handed_in_stays_and_what_is_told_is_new(self):
        rows = [("bob", "ann"), ("bob", "ann")]
        told = bound(rows)
        told.append("more")
        told[0] = None
        self.assertEqual(rows, [("bob", "ann"), ("bob", "ann")])
        self.assertEqual(bound(rows), [("bob", "ann")])

    def test_by_names(self):
        self.assertEqual(bound(rows=[("bob", "ann")]), [("bob", "ann")])


if __name__ == "__main__":
    unittest.main()
