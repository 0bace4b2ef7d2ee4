"""[25] Books made of other books; [2] of them."""

import unittest
from itertools import permutations

from aheadbook.books import Book
from aheadbook.breaches import is_fair
from aheadbook.errors import NoHead, NoNames, Unlike
from aheadbook.grounds import least_fair
from aheadbook.others import after, before, beside, mirrored, renamed, stacked
from tests.things import (
    NAMES,
    NO_SETS,
    NOTHINGS,
    Refusing,
    as_set,
    bound_in,
    fair_books_of,
    lets_of,
    lots_by_going,
    sets_of,
    some_lets,
)

FOUR = NAMES[:4]
OTHERS = ("zed", "bee", "nan", "moe")


def some_books(most):
    """Hands and lets of books, fair ones and others."""
    yield from fair_books_of(most)
    for many in range(1, most + 1):
        for seed in range(3):
            yield NAMES[:many], some_lets(NAMES[:many], seed, 40)


def lot_of(hands, lets):
    """Of each row its lot's first one."""
    return {row: rows[0] for rows in lots_by_going(hands, set(lets)) for row in rows}


def two_books(most, fair=False):
    """Lets of two books without a like hand, with few hands together."""
    some = list(fair_books_of(most - 1) if fair else some_books(most - 1))
    for k, (hands, lets) in enumerate(some):
        for seed, share in enumerate([0, 40, 100]):
            others = as_set(OTHERS[:1 + (k + seed) % (most - len(hands))])
            more = some_lets(others, (k, seed), share)
            yield hands, lets, others, least_fair(Book(others, more)).lets() if fair else more


class AfterBeforeTest(unittest.TestCase, Refusing):
    def test_of_each_set_that_is_not_all_hands(self):
        for hands, lets in some_books(5):
            book = Book(hands, lets)
            for some in sets_of(hands)[::2] + [()]:
                if some == hands:
                    continue
                left = tuple(hand for hand in hands if hand not in some)
                told = after(book, some)
                self.assertIs(told.__class__, Book)
                self.assertEqual(told.hands(), left)
                held = [(p, q, ahead) for p, q, ahead in lets_of(left) if (p, q, as_set(some + ahead)) in lets]
                self.assertEqual(told.lets(), held)
                told = before(book, some)
                self.assertEqual(told.hands(), left)
                self.assertEqual(told.lets(), [let for let in lets_of(left) if let in lets])
            self.assertEqual(book, Book(hands, lets))

    def test_of_the_empty_set_an_equal_new_one(self):
        for hands, lets in some_books(4):
            book = Book(hands, lets)
            for call in (after, before):
                self.assertEqual(call(book, ()), book)
                self.assertIsNot(call(book, ()), book)

    def test_of_fair_books_fair_and_lots_as_in_the_whole(self):
        for hands, lets in fair_books_of(4):
            book, whole = Book(hands, lets), lot_of(hands, lets)
            for some in sets_of(hands):
                left = [hand for hand in hands if hand not in some]
                if left:
                    self.parts(after(book, some), left, lambda row: whole[some + row])
                    self.parts(before(book, some), left, lambda row: whole[row + some])

    def parts(self, told, left, whole):
        self.assertIs(is_fair(told), True)
        lot = lot_of(left, told.lets())
        for one in permutations(left):
            for other in permutations(left):
                self.assertEqual(lot[one] == lot[other], whole(one) == whole(other))

    def test_of_eight_hands(self):
        book = Book(NAMES, lets_of(NAMES))
        self.assertEqual(after(book, NAMES[2:5]), Book(NAMES[:2] + NAMES[5:], lets_of(NAMES[:2] + NAMES[5:])))
        self.assertEqual(before(book, NAMES[1:]), Book(NAMES[:1]))

    def test_no_head(self):
        for book in (Book(FOUR), Book(FOUR, lets_of(FOUR))):
            for call in (after, before):
                for thing in NO_SETS + [FOUR]:
                    with self.subTest(thing=thing):
                        self.refused(NoHead, {"asked": thing}, call, book, thing)
        self.refused(NoHead, {"asked": ("ann",)}, after, Book(["ann"]), ("ann",))

    def test_by_names(self):
        self.assertEqual(after(head=("ann",), book=Book(FOUR)), Book(FOUR[1:]))
        self.assertEqual(before(tail=("ann",), book=Book(FOUR)), Book(FOUR[1:]))


class MirroredTest(unittest.TestCase):
    def test_read_from_behind(self):
        for hands, lets in some_books(5):
            book = Book(hands, lets)
            told = mirrored(book)
            self.assertEqual(told.hands(), hands)
            self.assertEqual(
                told.lets(),
                [
                    (p, q, ahead)
                    for p, q, ahead in lets_of(hands)
                    if (p, q, tuple(hand for hand in hands if hand not in (p, q) + ahead)) in lets
                ],
            )
            self.assertEqual(mirrored(told), book)
            self.assertEqual(book, Book(hands, lets))

    def test_of_fair_books_fair_and_lots_as_in_the_whole(self):
        for hands, lets in fair_books_of(4):
            told = mirrored(Book(hands, lets))
            self.assertIs(is_fair(told), True)
            lots = [sorted(row[::-1] for row in rows) for rows in lots_by_going(hands, set(lets))]
            self.assertEqual(sorted(lots), [list(rows) for rows in lots_by_going(hands, set(told.lets()))])

    def test_by_names(self):
        self.assertEqual(mirrored(book=Book(FOUR, [("ann", "cay", ("bob",))])).lets(), [("ann", "cay", ("dan",))])


class RenamedTest(unittest.TestCase, Refusing):
    def test_to_other_names_and_back(self):
        for hands, lets in some_books(4):
            book = Book(hands, lets)
            for others in permutations(OTHERS, len(hands)):
                names = dict(zip(hands, others))
                told = renamed(book, names)
                self.assertEqual(told.hands(), as_set(others))
                wanted = [(as_set((names[p], names[q])), as_set(names[k] for k in ahead)) for p, q, ahead in lets]
                self.assertEqual(told.lets(), sorted((*two, ahead) for two, ahead in wanted))
                self.assertEqual(renamed(told, dict(zip(others, hands))), book)
                self.assertEqual(names, dict(zip(hands, others)))

    def test_among_their_own_names(self):
        book = Book(FOUR, [("ann", "bob", ("cay",)), ("bob", "dan", ())])
        names = {"dan": "ann", "cay": "bob", "bob": "cay", "ann": "dan"}
        self.assertEqual(renamed(book, names), Book(FOUR, [("cay", "dan", ("bob",)), ("ann", "cay", ())]))
        same = renamed(book, {hand: hand for hand in FOUR})
        self.assertEqual(same, book)
        self.assertIsNot(same, book)

    def test_of_fair_books_fair_and_lots_as_in_the_whole(self):
        for hands, lets in fair_books_of(4):
            names = dict(zip(hands, OTHERS))
            told = renamed(Book(hands, lets), names)
            self.assertIs(is_fair(told), True)
            going = lots_by_going(hands, set(lets))
            lots = [sorted(tuple(names[hand] for hand in row) for row in rows) for rows in going]
            self.assertEqual(sorted(lots), [list(rows) for rows in lots_by_going(told.hands(), set(told.lets()))])

    def test_no_names(self):
        book = Book(("ann", "bob"), [("ann", "bob", ())])
        for thing in NOTHINGS + [
            {},
            {"ann": "bob"},
            {"ann": "x", "bob": "y", "cay": "z"},
            {"ann": "x", "cay": "y"},
            {"ann": "x", "bob": "x"},
            {"ann": "x", "bob": "Y"},
            {"ann": "x", "bob": ""},
            {"ann": "x", "bob": "ninesigns"},
            {"ann": "x", "bob": 1},
            {"ann": True, "bob": "x"},
            {"ann": None, "bob": "x"},
            {"ann": ["x"], "bob": "y"},
            {"ann": ("x",), "bob": "y"},
            {"ann": {"x": "y"}, "bob": "y"},
            {"ann": "x", None: "y"},
            {"ann": "x", ("bob",): "y"},
            [("ann", "x"), ("bob", "y")],
            (("ann", "x"), ("bob", "y")),
            ["ann", "bob"],
            ("ann", "bob"),
            "ann bob",
        ]:
            with self.subTest(thing=thing):
                self.refused(NoNames, {"asked": thing}, renamed, book, thing)
        kept = {"ann": ["x"], "bob": "y"}
        with self.assertRaises(NoNames) as caught:
            renamed(book, kept)
        caught.exception.asked["ann"].append("more")
        self.assertEqual(kept, {"ann": ["x"], "bob": "y"})

    def test_by_names(self):
        self.assertEqual(renamed(names={"ann": "zoe"}, book=Book(["ann"])), Book(["zoe"]))


class TwoTest(unittest.TestCase, Refusing):
    def test_beside_just_as_told(self):
        for hands, lets, others, more in two_books(5):
            one, other = Book(hands, lets), Book(others, more)
            told = beside(one, other)
            every = as_set(hands + others)
            self.assertEqual(told.hands(), every)
            wanted = []
            for p, q, ahead in lets_of(every):
                if p in hands and q in hands:
                    held = (p, q, tuple(hand for hand in ahead if hand in hands)) in lets
                elif p in others and q in others:
                    held = (p, q, tuple(hand for hand in ahead if hand in others)) in more
                else:
                    held = True
                wanted.extend([(p, q, ahead)] if held else [])
            self.assertEqual(told.lets(), wanted)
            self.assertEqual(beside(other, one), told)
            self.assertEqual((one, other), (Book(hands, lets), Book(others, more)))

    def test_stacked_just_as_told(self):
        for hands, lets, others, more in two_books(5):
            one, other = Book(hands, lets), Book(others, more)
            told = stacked(one, other)
            self.assertEqual(told.hands(), as_set(hands + others))
            self.assertEqual(told.lets(), sorted(lets + [(p, q, as_set(hands + ahead)) for p, q, ahead in more]))
            told = stacked(other, one)
            self.assertEqual(told.lets(), sorted(more + [(p, q, as_set(others + ahead)) for p, q, ahead in lets]))
            self.assertEqual((one, other), (Book(hands, lets), Book(others, more)))

    def test_of_fair_books_fair_and_lots_as_in_the_whole(self):
        for hands, lets, others, more in two_books(4, fair=True):
            one, other = Book(hands, lets), Book(others, more)
            first, second = lot_of(hands, lets), lot_of(others, more)
            told = beside(one, other)
            self.assertIs(is_fair(told), True)
            whole = lot_of(told.hands(), told.lets())
            part = {
                row: (
                    first[tuple(hand for hand in row if hand in hands)],
                    second[tuple(hand for hand in row if hand in others)],
                )
                for row in whole
            }
            for row in whole:
                for another in whole:
                    self.assertEqual(whole[row] == whole[another], part[row] == part[another])
            told = stacked(one, other)
            self.assertIs(is_fair(told), True)
            whole = lot_of(told.hands(), told.lets())
            rows = [row for row in whole if set(row[:len(hands)]) == set(hands)]
            for row in rows:
                for another in rows:
                    self.assertEqual(whole[row] == whole[another], part[row] == part[another])

    def test_of_eight_hands_together(self):
        one, other = Book(NAMES[::2]), Book(NAMES[1::2], lets_of(NAMES[1::2]))
        told = beside(one, other)
        self.assertEqual(told.hands(), NAMES)
        self.assertEqual(len(told), 22 * 64)
        self.assertIs(is_fair(told), True)
        self.assertEqual(len(stacked(one, other)), 24)

    def test_somewhat_beyond(self):
        one, other = Book(NAMES[:5]), Book(OTHERS, lets_of(OTHERS))
        told = beside(one, other)
        self.assertEqual(told.hands(), as_set(NAMES[:5] + OTHERS))
        self.assertEqual(len(told), (6 + 20) * 128)
        self.assertIs(is_fair(told), True)
        self.assertIs(told.has(("ann", "zed", ("bob",))), True)
        wanted = sorted((p, q, as_set(NAMES[:5] + some)) for p, q, some in lets_of(OTHERS))
        self.assertEqual(stacked(one, other).lets(), wanted)

    def test_unlike(self):
        one = Book(NAMES[:3], [("ann", "bob", ())])
        for hands in [NAMES[:3], NAMES[2:5], ("ann",), ("zed", "cay")]:
            for call in (beside, stacked):
                self.refused(Unlike, {}, call, one, Book(hands))
                self.refused(Unlike, {}, call, Book(hands), one)
        self.refused(Unlike, {}, beside, one, one)

    def test_by_names(self):
        one, other = Book(["ann"]), Book(["bob"])
        self.assertEqual(beside(other=other, one=one), Book(["ann", "bob"], [("ann", "bob", ())]))
        self.assertEqual(stacked(other=other, one=one), Book(["ann", "bob"]))


if __name__ == "__main__":
    unittest.main()
