"""[10] Ways by a book; [2] of them."""

import unittest
from itertools import permutations, product

from aheadbook.books import Book
from aheadbook.errors import NoRow, NotLet
from aheadbook.ways import walked
from tests.things import NAMES, NOTHINGS, Refusing, lets_of, some_lets, wanted_let

LETS = [("ann", "bob", ()), ("ann", "cay", ("bob",)), ("bob", "cay", ())]
BOOK = Book(["cay", "ann", "bob"], LETS)
ROW = ("ann", "bob", "cay")
# Of ann, bob, cay.
NO_ROWS = NOTHINGS + [
    (),
    [],
    ["ann", "bob", "cay"],
    ("ann", "bob"),
    ("ann", "bob", "bob"),
    ("ann", "bob", "dan"),
    ("ann", "bob", "cay", "dan"),
    ("ann", "bob", "cay", "cay"),
    ("ann", "bob", "Cay"),
    ("ann", "bob", None),
    ("ann", "bob", ("cay",)),
    (("ann", "bob", "cay"),),
    "ann bob cay",
    {"ann": 0, "bob": 1, "cay": 2},
]


class WalkedTest(unittest.TestCase, Refusing):
    def test_all_rows_of_a_let_way(self):
        rows = [ROW, ("bob", "ann", "cay"), ("bob", "cay", "ann"), ("cay", "bob", "ann")]
        for many in range(4):
            for kind in (list, tuple):
                told = walked(BOOK, ROW, kind([0, 1, 0][:many]))
                self.assertIs(told.__class__, list)
                self.assertEqual(told, rows[:many + 1])

    def test_back_and_forth(self):
        other = ("bob", "ann", "cay")
        self.assertEqual(walked(BOOK, ROW, [0, 0, 0, 0, 0]), [ROW, other, ROW, other, ROW, other])

    def test_the_empty_way(self):
        for many in range(1, 9):
            row = tuple(reversed(NAMES[:many]))
            self.assertEqual(walked(Book(NAMES[:many]), row, []), [row])
            self.assertEqual(walked(Book(NAMES[:many]), row, ()), [row])

    def test_every_short_way(self):
        for many, longest in [(1, 2), (2, 4), (3, 5), (4, 4)]:
            hands = NAMES[:many]
            for seed, share in enumerate([0, 40, 70, 100]):
                lets = some_lets(hands, seed, share)
                book = Book(hands, lets)
                for row in list(permutations(hands))[::3]:
                    for way in product(range(-1, many), repeat=longest):
                        self.as_it_goes(book, lets, row, way)

    def as_it_goes(self, book, lets, row, way):
        rows = [row]
        for at, place in enumerate(way):
            if not 0 <= place < len(row) - 1:
                return self.refused(NotLet, {"at": at, "why": "place"}, walked, book, row, way)
            if wanted_let(rows[-1], place) not in lets:
                return self.refused(NotLet, {"at": at, "why": "let"}, walked, book, row, way)
            turned = list(rows[-1])
            turned[place], turned[place + 1] = turned[place + 1], turned[place]
            rows.append(tuple(turned))
        return self.assertEqual(walked(book, row, way), rows)

    def test_eight_hands_to_the_row_from_behind(self):
        way = [k for end in range(7, 0, -1) for k in range(end)]
        rows = walked(Book(NAMES, lets_of(NAMES)), NAMES, way)
        self.assertEqual(len(rows), 29)
        self.assertEqual(rows[-1], tuple(reversed(NAMES)))

    def test_refuses_what_is_no_place(self):
        for thing in NOTHINGS + [(), [], 2, 3, -1, -2, (0,), [0], {0: 0}]:
            with self.subTest(thing=thing):
                self.refused(NotLet, {"at": 0, "why": "place"}, walked, BOOK, ROW, [thing])
                self.refused(NotLet, {"at": 2, "why": "place"}, walked, BOOK, ROW, (0, 1, thing, 0))
                self.refused(NotLet, {"at": 1, "why": "place"}, walked, BOOK, ROW, [0, thing, None, 1])

    def test_a_row_of_one_hand_has_no_place(self):
        for thing in (0, -1, 1):
            self.refused(NotLet, {"at": 0, "why": "place"}, walked, Book(["ann"]), ("ann",), [thing])

    def test_refuses_what_the_book_does_not_let(self):
        self.refused(NotLet, {"at": 0, "why": "let"}, walked, BOOK, ROW, [1])
        self.refused(NotLet, {"at": 0, "why": "let"}, walked, BOOK, ROW, [1, None])
        self.refused(NotLet, {"at": 3, "why": "let"}, walked, BOOK, ROW, (0, 1, 0, 1))
        self.refused(NotLet, {"at": 1, "why": "let"}, walked, BOOK, ("bob", "cay", "ann"), (0, 1, 9))

    def test_refuses_what_is_no_row_ahead_of_all(self):
        for thing in NO_ROWS:
            for way in [[], (0,), [None], [7], (1, 0)]:
                with self.subTest(thing=thing, way=way):
                    self.refused(NoRow, {"asked": thing}, walked, BOOK, thing, way)

    def test_what_is_handed_in_stays_and_what_is_told_is_new(self):
        way = [0, 1]
        told = walked(BOOK, ROW, way)
        told.append("more")
        told[0] = None
        self.assertEqual(way, [0, 1])
        self.assertEqual(walked(BOOK, ROW, way), [ROW, ("bob", "ann", "cay"), ("bob", "cay", "ann")])
        self.assertEqual(BOOK, Book(ROW, LETS))

    def test_by_names(self):
        self.assertEqual(walked(way=(0,), row=ROW, book=BOOK), [ROW, ("bob", "ann", "cay")])


if __name__ == "__main__":
    unittest.main()
