"""[12] Rings, their lets and their marks; [2] of them."""

import unittest

from aheadbook.books import Book
from aheadbook.errors import NoRing
from aheadbook.lets import is_let
from aheadbook.rings import marks, ring_lets, rings
from tests.things import NAMES, NOTHINGS, Refusing, all_rings, lets_of, lets_of_ring, some_lets

FIVE = ["dan", "ann", "eve", "cay", "bob"]
THREE = ("ann", "bob", "cay")
# Of THREE ahead of which these stand, in a book of FIVE.
NO_AHEADS = NOTHINGS + [
    [],
    ["dan"],
    ("ann",),
    ("bob",),
    ("cay", "dan"),
    ("eve", "dan"),
    ("dan", "dan"),
    ("zoe",),
    ("dan", "zoe"),
    ("Dan",),
    ("dan", None),
    ("dan", ["eve"]),
    (("dan",),),
    {},
    {"dan": "eve"},
    "dan",
    "",
]
# Behind none of FIVE.
NO_THREES = NOTHINGS + [
    (),
    [],
    ("ann",),
    ("ann", "bob"),
    ("ann", "bob", "cay", "dan"),
    ["ann", "bob", "cay"],
    ("ann", "cay", "bob"),
    ("cay", "bob", "ann"),
    ("ann", "bob", "bob"),
    ("ann", "ann", "bob"),
    ("ann", "bob", "zoe"),
    ("ann", "bob", "Cay"),
    ("ann", "bob", None),
    ("ann", "bob", ("cay",)),
    ("ann", "bob", ["cay"]),
    {"ann": 0, "bob": 1, "cay": 2},
]


class RingsTest(unittest.TestCase):
    def test_of_few_hands(self):
        for many in range(3):
            self.assertEqual(rings(NAMES[:many]), [])
        self.assertEqual(rings(["cay", "ann", "bob"]), [(THREE, ())])
        self.assertEqual(
            rings(["cay", "ann", "dan", "bob"]),
            [
                (("ann", "bob", "cay"), ()),
                (("ann", "bob", "cay"), ("dan",)),
                (("ann", "bob", "dan"), ()),
                (("ann", "bob", "dan"), ("cay",)),
                (("ann", "cay", "dan"), ()),
                (("ann", "cay", "dan"), ("bob",)),
                (("bob", "cay", "dan"), ()),
                (("bob", "cay", "dan"), ("ann",)),
            ],
        )

    def test_of_one_to_eight_in_any_order(self):
        for many in range(1, 9):
            hands = NAMES[:many]
            for given in [hands, list(hands), list(reversed(hands)), hands[1::2] + hands[::2]]:
                told = rings(given)
                self.assertIs(told.__class__, list)
                self.assertEqual(told, all_rings(hands))
        self.assertEqual(len(rings(NAMES)), 56 * 32)

    def test_what_is_handed_in_stays_and_what_is_told_is_new(self):
        hands = ["cay", "ann", "bob"]
        told = rings(hands)
        told.append("more")
        told[0] = None
        self.assertEqual(hands, ["cay", "ann", "bob"])
        self.assertEqual(rings(hands), [(THREE, ())])

    def test_by_names(self):
        self.assertEqual(rings(hands=THREE), [(THREE, ())])


class RingLetsTest(unittest.TestCase):
    def test_without_and_with_others_ahead(self):
        told = ring_lets(THREE, ())
        self.assertIs(told.__class__, list)
        self.assertEqual(
            told,
            [
                ("ann", "bob", ()),
                ("ann", "cay", ("bob",)),
                ("bob", "cay", ()),
                ("ann", "bob", ("cay",)),
                ("ann", "cay", ()),
                ("bob", "cay", ("ann",)),
            ],
        )
        self.assertEqual(
            ring_lets(("bob", "dan", "eve"), ("ann", "cay")),
            [
                ("bob", "dan", ("ann", "cay")),
                ("bob", "eve", ("ann", "cay", "dan")),
                ("dan", "eve", ("ann", "cay")),
                ("bob", "dan", ("ann", "cay", "eve")),
                ("bob", "eve", ("ann", "cay")),
                ("dan", "eve", ("ann", "bob", "cay")),
            ],
        )

    def test_each_leads_from_an_order_to_the_next(self):
        for three, ahead in all_rings(NAMES):
            told = ring_lets(three, ahead)
            self.assertEqual(told, lets_of_ring(three, ahead))
            self.assertTrue(all(is_let(NAMES, let) for let in told))

    def test_a_told_list_is_the_askers_own(self):
        told = ring_lets(THREE, ())
        told.append("more")
        told[0] = None
        self.assertEqual(ring_lets(THREE, ()), lets_of_ring(THREE, ()))

    def test_by_names(self):
        self.assertEqual(ring_lets(ahead=("dan",), three=THREE), lets_of_ring(THREE, ("dan",)))


class MarksTest(unittest.TestCase, Refusing):
    def test_every_book_of_three_hands(self):
        six = lets_of_ring(THREE, ())
        for number in range(64):
            told = marks(Book(THREE, [six[k] for k in range(6) if number >> k & 1]), THREE, ())
            self.assertEqual(repr(told), repr(tuple(bool(number >> k & 1) for k in range(6))))

    def test_each_ring_of_books_here_and_there(self):
        for many in range(3, 9):
            hands = NAMES[:many]
            for seed, share in [(1, 30), (2, 60)]:
                lets = set(some_lets(hands, seed, share))
                book = Book(hands, list(lets))
                for three, ahead in all_rings(hands):
                    wanted = tuple(let in lets for let in lets_of_ring(three, ahead))
                    self.assertEqual(repr(marks(book, three, ahead)), repr(wanted))

    def test_refuses_what_is_no_ring(self):
        book = Book(FIVE, lets_of(FIVE))
        for thing in NO_AHEADS:
            with self.subTest(ahead=thing):
                self.refused(NoRing, {"asked": (THREE, thing)}, marks, book, THREE, thing)
        for thing in NO_THREES:
            for ahead in [(), ("eve",), None, ["dan"]]:
                with self.subTest(three=thing, ahead=ahead):
                    self.refused(NoRing, {"asked": (thing, ahead)}, marks, book, thing, ahead)

    def test_no_three_hands_in_a_book_of_two(self):
        self.refused(NoRing, {"asked": (("ann", "bob"), ())}, marks, Book(["ann", "bob"]), ("ann", "bob"), ())
        self.refused(NoRing, {"asked": (THREE, ())}, marks, Book(["ann", "bob"]), THREE, ())

    def test_what_is_refused_is_kept_as_a_copy(self):
        three, ahead = ["ann", ["bob"]], {"cay": ["dan"]}
        with self.assertRaises(NoRing) as caught:
            marks(Book(FIVE), three, ahead)
        caught.exception.asked[0][1].append("more")
        caught.exception.asked[1]["cay"].append("more")
        self.assertEqual((three, ahead), (["ann", ["bob"]], {"cay": ["dan"]}))

    def test_by_names(self):
        self.assertEqual(marks(ahead=(), three=THREE, book=Book(THREE)), (False,) * 6)


if __name__ == "__main__":
    unittest.main()
