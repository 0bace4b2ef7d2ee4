"""[21], [22] What lets follow from lets, with grounds; two rows brought into one lot; [2] of them."""

import time
import unittest
from itertools import combinations, permutations

from aheadbook.books import Book
from aheadbook.breaches import is_fair
from aheadbook.errors import NoGround, NoLet, NoRow
from aheadbook.fairlots import parted
from aheadbook.grounds import bringing, ground, is_ground, least_fair
from tests.test_ways import NO_ROWS
from tests.things import (
    NAMES,
    NO_LETS,
    NOTHINGS,
    Refusing,
    all_rings,
    fair_books_of,
    fair_lets,
    lets_of,
    lets_of_ring,
    some_lets,
    wanted_let,
)

THREE = ("ann", "bob", "cay")
FOUR = ("ann", "bob", "cay", "dan")
SIX = lets_of_ring(THREE, ())
# Three in a row behind nobody; with dan ahead of them, what follows there goes on.
BOOK = Book(FOUR, SIX[4:] + SIX[:1] + lets_of_ring(THREE, ("dan",))[:2])


def books_of_lets():
    """Hands, lets, and the least fair lets that have these."""
    for many in range(1, 9):
        hands = NAMES[:many]
        for seed, share in enumerate([0, 3, 8, 12, 18, 30, 50, 100]):
            if many < 7 or share not in (18, 50):
                lets = some_lets(hands, seed, share)
                yield hands, lets, fair_lets(hands, lets)
        six = lets_of_ring(hands[-3:], hands[:-3]) if many > 2 else []
        for start in range(len(six)):
            lets = (six + six)[start:start + 3]
            yield hands, lets, fair_lets(hands, lets)


def lets_by(hands, lets, let, path):
    """Whether the point's sentences let a list of tuples by as a ground of a let."""
    held = set(lets)
    for three, ahead, start in path:
        six = lets_of_ring(three, ahead)
        if (three, ahead) not in all_rings(hands) or not all(six[(start + k) % 6] in held for k in range(3)):
            return False
        held.update(six)
    return let in lets if not path else let in lets_of_ring(*path[-1][:2])


class LeastFairTest(unittest.TestCase):
    def test_just_what_comes_ring_by_ring(self):
        for hands, lets, wanted in books_of_lets():
            book = Book(hands, lets)
            told = least_fair(book)
            self.assertIs(told.__class__, Book)
            self.assertEqual(told.hands(), hands)
            self.assertEqual(told.lets(), wanted)
            self.assertTrue(all(told.has(let) for let in lets))
            self.assertIs(is_fair(told), True)
            self.assertEqual(book, Book(hands, lets))

    def test_of_a_fair_book_one_equal_to_it_a_new_one(self):
        for hands, lets in fair_books_of(6):
            book = Book(hands, lets)
            told = least_fair(book)
            self.assertEqual(told, book)
            self.assertIsNot(told, book)

    def test_no_fair_book_with_these_lets_has_fewer(self):
        every = lets_of(THREE)
        fair = [set(some) for many in range(7) for some in combinations(every, many) if is_fair(Book(THREE, some))]
        for many in range(len(every) + 1):
            for lets in combinations(every, many):
                told = set(least_fair(Book(THREE, lets)).lets())
                self.assertIn(told, fair)
                self.assertTrue(all(told <= other for other in fair if other >= set(lets)))

    def test_it_can_be_asked_as_any_book(self):
        told = least_fair(BOOK)
        self.assertEqual(told, Book(FOUR, told.lets()))
        self.assertEqual(len(told), len(told.lets()))
        self.assertIs(told.has(("ann", "bob", ("cay",))), True)
        self.assertIs(told.has(("ann", "dan", ())), False)

    def test_by_names(self):
        self.assertEqual(len(least_fair(book=BOOK)), 8)


class GroundTest(unittest.TestCase, Refusing):
    def test_of_each_let(self):
        for hands, lets, wanted in books_of_lets():
            if len(hands) > 5:
                continue
            book = Book(hands, lets)
            for let in lets_of(hands):
                if let not in wanted:
                    self.refused(NoGround, {"asked": let}, ground, book, let)
                    continue
                told = ground(book, let)
                self.assertIs(told.__class__, list)
                self.assertEqual(told == [], let in lets)
                self.assertTrue(lets_by(hands, lets, let, told))
                self.assertIs(is_ground(book, let, told), True)
                self.assertTrue(all(type(step) is tuple and len(step) == 3 for step in told))

    def test_of_six_to_eight_hands_in_a_short_time(self):
        begun = time.perf_counter()
        for hands, lets, wanted in books_of_lets():
            if len(hands) > 5:
                book = Book(hands, lets)
                for let in wanted[::11]:
                    told = ground(book, let)
                    self.assertEqual(told == [], book.has(let))
                    self.assertIs(is_ground(book, let, told), True)
                for let in sorted(set(lets_of(hands)) - set(wanted))[::29]:
                    self.refused(NoGround, {"asked": let}, ground, book, let)
        self.assertLess(time.perf_counter() - begun, 60)

    def test_a_ring_that_goes_by_another_one(self):
        told = ground(BOOK, ("bob", "cay", ()))
        self.assertEqual(told, [(THREE, (), 4)])
        # Three in a row behind dan come only when what leads there behind nobody does.
        lets = [("ann", "bob", ()), ("ann", "cay", ("bob",)), ("bob", "cay", ())]
        book = Book(FOUR, lets + lets_of_ring(("bob", "cay", "dan"), ("ann",))[1:3])
        self.assertEqual(
            ground(book, ("cay", "dan", ("ann", "bob"))),
            [(THREE, (), 0), (("bob", "cay", "dan"), ("ann",), 0)],
        )

    def test_what_is_no_let_goes_first(self):
        for book in (BOOK, Book(FOUR)):
            for thing in NO_LETS:
                with self.subTest(thing=thing):
                    self.refused(NoLet, {"asked": thing}, ground, book, thing)

    def test_a_told_list_is_the_askers_own(self):
        let = ("ann", "bob", ("cay",))
        told = ground(BOOK, let)
        wanted = list(told)
        told.clear()
        self.assertEqual(ground(BOOK, let), wanted)
        empty = ground(BOOK, SIX[0])
        empty.append("more")
        self.assertEqual(ground(BOOK, SIX[0]), [])

    def test_by_names(self):
        self.assertEqual(ground(let=SIX[0], book=BOOK), [])


class IsGroundTest(unittest.TestCase):
    let = ("cay", "dan", ("ann", "bob"))
    book = Book(FOUR, SIX[:3] + lets_of_ring(("bob", "cay", "dan"), ("ann",))[1:3])
    path = [(THREE, (), 0), (("bob", "cay", "dan"), ("ann",), 0)]

    def test_any_list_that_fits(self):
        other = [(("bob", "cay", "dan"), ("ann",), 0)]
        for path in [
            self.path,
            self.path[:1] + self.path,
            self.path + self.path[1:],
            # Once a ring has all six, it goes by any three of them.
            self.path[:1] + [(THREE, (), start) for start in range(6)] + other,
            self.path + [(("bob", "cay", "dan"), ("ann",), 5)],
        ]:
            self.assertIs(is_ground(self.book, self.let, path), True)
            self.assertTrue(lets_by(FOUR, self.book.lets(), self.let, path))
        # The book has it, and a ring leads to it, too.
        self.assertIs(is_ground(self.book, SIX[0], []), True)
        self.assertIs(is_ground(self.book, SIX[0], [(THREE, (), 0)]), True)

    def test_one_ring_out_or_elsewhere(self):
        for path in [[], self.path[:1], self.path[1:], self.path[::-1], self.path + [(THREE, (), 0)]]:
            self.assertIs(is_ground(self.book, self.let, path), False)

    def test_the_start_turned(self):
        for at in range(2):
            three, ahead, right = self.path[at]
            for start in range(-7, 13):
                path = list(self.path)
                path[at] = (three, ahead, start)
                self.assertIs(is_ground(self.book, self.let, path), start == right)
            for start in [True, False, None, "0", (0,), [0], {}, 10 ** 29, -(10 ** 29)]:
                path[at] = (three, ahead, start)
                self.assertIs(is_ground(self.book, self.let, path), False)

    def test_a_set_or_three_otherwise(self):
        for at, thing in [
            (0, ("ann", "bob")),
            (0, ("ann", "bob", "dan")),
            (0, ("bob", "ann", "cay")),
            (0, ["ann", "bob", "cay"]),
            (0, ("ann", "bob", "cay", "dan")),
            (0, ("ann", "bob", "zoe")),
            (0, ("ann", "bob", "bob")),
            (0, None),
            (1, ("dan",)),
            (1, ("ann",)),
            (1, ("zoe",)),
            (1, []),
            (1, None),
            (1, "dan"),
            (1, 0),
        ]:
            step = list(self.path[0])
            step[at] = thing
            self.assertIs(is_ground(self.book, self.let, [tuple(step), self.path[1]]), False)

    def test_a_list_for_a_tuple_a_tuple_for_the_list(self):
        self.assertIs(is_ground(self.book, self.let, tuple(self.path)), False)
        self.assertIs(is_ground(self.book, self.let, [list(self.path[0]), self.path[1]]), False)
        self.assertIs(is_ground(self.book, self.let, [self.path[0] + (0,), self.path[1]]), False)
        self.assertIs(is_ground(self.book, self.let, [self.path[0][:2], self.path[1]]), False)
        self.assertIs(is_ground(self.book, SIX[0], ()), False)

    def test_the_let_not_of_the_last_ring(self):
        last = lets_of_ring(*self.path[-1][:2])
        for let in lets_of(FOUR):
            self.assertIs(is_ground(self.book, let, self.path), let in last)
            self.assertIs(is_ground(self.book, let, []), self.book.has(let))

    def test_of_each_told_ground_with_one_thing_otherwise(self):
        for hands, lets, wanted in books_of_lets():
            if not 3 < len(hands) < 6:
                continue
            book = Book(hands, lets)
            for let in wanted[::3]:
                told = ground(book, let)
                for at in range(len(told)):
                    for path in [
                        told[:at] + told[at + 1:],
                        told[:at] + [(*told[at][:2], (told[at][2] + 1) % 6)] + told[at + 1:],
                        told[:at] + [(*told[at][:2], (told[at][2] + 4) % 6)] + told[at + 1:],
                        told[at:] + told[:at],
                    ]:
                        self.assertIs(is_ground(book, let, path), lets_by(hands, lets, let, path))

    def test_of_anything(self):
        for thing in NO_LETS:
            for path in ([], self.path, self.path[:1]):
                self.assertIs(is_ground(self.book, thing, path), False)
        for thing in NOTHINGS + [(), [()], [None], [1], [[]], [THREE], [(THREE, ())], [{}], "", 0]:
            with self.subTest(thing=thing):
                self.assertIs(is_ground(self.book, self.let, thing), False)
        self.assertIs(is_ground(self.book, self.let, self.path + [None]), False)

    def test_what_is_handed_in_stays(self):
        path = list(self.path)
        is_ground(self.book, self.let, path)
        self.assertEqual(path, self.path)

    def test_by_names(self):
        self.assertIs(is_ground(thing=self.path, let=self.let, book=self.book), True)


class BringingTest(unittest.TestCase, Refusing):
    def wanted(self, hands, lets, one, other):
        """By the lets of a way that brings, one by one, the hand that comes next to its place."""
        more, row = list(lets), one
        for at in range(len(hands)):
            for place in range(row.index(other[at]) - 1, at - 1, -1):
                more.append(wanted_let(row, place))
                row = row[:place] + (row[place + 1], row[place]) + row[place + 2:]
        self.assertEqual(row, other)
        return fair_lets(hands, more)

    def test_of_some_rows(self):
        for hands, lets in list(fair_books_of(5))[::3]:
            for shown in (lets, lets[::2]):
                book = Book(hands, shown)
                rows = list(permutations(hands))
                for one, other in zip(rows[::11], rows[1::7] + rows[:1]):
                    told = bringing(book, one, other)
                    self.assertEqual(told.lets(), self.wanted(hands, shown, one, other))
                    self.assertIs(is_fair(told), True)
                    self.assertIs(parted(told, one, other), None)
                    self.assertEqual(book, Book(hands, shown))

    def test_no_fair_book_that_has_both_in_one_lot_has_fewer(self):
        every = lets_of(THREE)
        fair = [Book(THREE, some) for many in range(7) for some in combinations(every, many)]
        fair = [book for book in fair if is_fair(book)]
        for one in permutations(THREE):
            for other in permutations(THREE):
                fitting = [set(book.lets()) for book in fair if parted(book, one, other) is None]
                for lets in ([], [SIX[0]], [SIX[3], SIX[5]]):
                    told = set(bringing(Book(THREE, lets), one, other).lets())
                    self.assertIn(told, fitting)
                    self.assertTrue(all(told <= some for some in fitting if some >= set(lets)))

    def test_of_a_row_and_the_one_with_every_pair_otherwise_all_lets(self):
        for many in range(1, 9):
            hands = NAMES[:many]
            for row in [hands, hands[many // 2:] + hands[:many // 2]]:
                self.assertEqual(bringing(Book(hands), row, row[::-1]).lets(), lets_of(hands))

    def test_of_a_row_and_itself(self):
        self.assertEqual(bringing(BOOK, FOUR, FOUR), least_fair(BOOK))

    def test_no_row(self):
        book = Book(THREE, SIX[1:4])
        for thing in NO_ROWS:
            with self.subTest(thing=thing):
                self.refused(NoRow, {"asked": thing}, bringing, book, thing, THREE)
                self.refused(NoRow, {"asked": thing}, bringing, book, THREE, thing)
                self.refused(NoRow, {"asked": thing}, bringing, book, thing, "neither")

    def test_by_names(self):
        self.assertEqual(len(bringing(other=("bob", "ann", "cay"), one=THREE, book=Book(THREE))), 1)


if __name__ == "__main__":
    unittest.main()
