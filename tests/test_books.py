"""[7] Books; [2] and [3] of them."""

import unittest

from aheadbook.books import Book
from aheadbook.errors import NoHands, NoLet
from tests.things import NAMES, NO_HANDS, NO_LETS, NOTHINGS, Refusing, lets_of

FOUR = ["dan", "ann", "cay", "bob"]
LETS = [("bob", "cay", ("ann", "dan")), ("ann", "bob", ()), ("ann", "dan", ("bob",)), ("ann", "bob", ("cay",))]


class BookTest(unittest.TestCase, Refusing):
    def test_hands_in_any_order(self):
        for hands in [["dan", "ann", "cay", "bob"], ("ann", "bob", "cay", "dan"), ["bob", "dan", "cay", "ann"]]:
            book = Book(hands, LETS)
            self.assertEqual(repr(book.hands()), "('ann', 'bob', 'cay', 'dan')")
            self.assertEqual(book, Book(FOUR, LETS))

    def test_lets_in_any_order_some_twice(self):
        for lets in [LETS, tuple(reversed(LETS)), LETS + LETS[:3], tuple(sorted(LETS + LETS))]:
            book = Book(FOUR, lets)
            told = book.lets()
            self.assertIs(told.__class__, list)
            self.assertEqual(told, sorted(LETS))
            self.assertEqual(len(book), 4)
            self.assertEqual(book, Book(FOUR, LETS))

    def test_lets_may_be_left_out(self):
        for book in [Book(FOUR), Book(FOUR, ()), Book(FOUR, [])]:
            self.assertEqual(book.lets(), [])
            self.assertEqual(len(book), 0)
            self.assertEqual(book.hands(), ("ann", "bob", "cay", "dan"))
            self.assertIs(book.has(LETS[0]), False)

    def test_one_to_eight_hands_and_all_lets(self):
        for many in range(1, 9):
            hands = NAMES[:many]
            wanted = lets_of(hands)
            book = Book(list(reversed(hands)), list(reversed(wanted)))
            self.assertEqual(book.hands(), hands)
            self.assertEqual(book.lets(), wanted)
            self.assertEqual(len(book), len(wanted))
            self.assertTrue(all(book.has(let) is True for let in wanted))

    def test_names_of_one_and_of_eight_letters(self):
        self.assertEqual(Book(["zzzzzzzz", "a", "ab"]).hands(), ("a", "ab", "zzzzzzzz"))

    def test_has_just_its_lets(self):
        book = Book(FOUR, LETS)
        for let in lets_of(FOUR):
            self.assertIs(book.has(let), let in LETS)

    def test_has_nothing_else(self):
        book = Book(FOUR, lets_of(FOUR))
        for thing in NO_LETS + [LETS, sorted(LETS), FOUR]:
            with self.subTest(thing=thing):
                self.assertIs(book.has(thing), False)

    def test_equal_where_hands_and_lets_are(self):
        book = Book(FOUR, LETS)
        self.assertTrue(book == Book(tuple(sorted(FOUR)), tuple(sorted(LETS))))
        self.assertFalse(book != Book(tuple(sorted(FOUR)), tuple(sorted(LETS))))
        for other in [
            Book(FOUR, LETS[1:]),
            Book(FOUR, LETS + [("ann", "cay", ())]),
            Book(FOUR, LETS[1:] + [("ann", "cay", ())]),
            Book(FOUR + ["eve"], LETS),
            Book(FOUR),
        ]:
            self.assertFalse(book == other)
            self.assertTrue(book != other)
        self.assertFalse(Book(["ann"]) == Book(["bob"]))
        self.assertTrue(Book(["ann"]) == Book(("ann",)))

    def test_never_equal_to_anything_of_another_kind(self):
        for book in [Book(FOUR, LETS), Book(["ann"]), Book(FOUR)]:
            for thing in NOTHINGS + [
                (),
                [],
                0,
                4,
                book.lets(),
                book.hands(),
                (book.hands(), book.lets()),
                (book.hands(), tuple(book.lets())),
            ]:
                with self.subTest(thing=thing):
                    self.assertIs(book == thing, False)
                    self.assertIs(thing == book, False)
                    self.assertIs(book != thing, True)

    def test_what_was_handed_in_and_changed_later_changes_nothing(self):
        hands, lets = ["bob", "ann", "cay"], [("ann", "cay", ()), ("ann", "bob", ())]
        book = Book(hands, lets)
        self.assertEqual(hands, ["bob", "ann", "cay"])
        self.assertEqual(lets, [("ann", "cay", ()), ("ann", "bob", ())])
        hands.append("dan")
        lets.append(("bob", "cay", ()))
        del lets[0]
        self.assertEqual(book.hands(), ("ann", "bob", "cay"))
        self.assertEqual(book.lets(), [("ann", "bob", ()), ("ann", "cay", ())])
        self.assertEqual(len(book), 2)
        self.assertIs(book.has(("bob", "cay", ())), False)
        self.assertIs(book.has(("ann", "cay", ())), True)

    def test_what_was_told_and_changed_later_changes_nothing(self):
        book = Book(FOUR, LETS)
        told = book.lets()
        told.append(("ann", "cay", ()))
        del told[0]
        self.assertEqual(book.lets(), sorted(LETS))
        self.assertEqual(len(book), 4)
        self.assertIs(book.has(("ann", "cay", ())), False)
        self.assertIs(book.has(("ann", "bob", ())), True)

    def test_refuses_what_are_no_hands_ahead_of_all(self):
        for thing in NO_HANDS:
            with self.subTest(thing=thing):
                self.refused(NoHands, {"asked": thing}, Book, thing)
                self.refused(NoHands, {"asked": thing}, Book, thing, None)
                self.refused(NoHands, {"asked": thing}, Book, thing, [None])

    def test_refuses_the_first_that_is_no_let(self):
        for thing in NO_LETS:
            with self.subTest(thing=thing):
                self.refused(NoLet, {"asked": thing}, Book, FOUR, [thing])
                self.refused(NoLet, {"asked": thing}, Book, FOUR, (LETS[0], thing, LETS[1]))
                self.refused(NoLet, {"asked": thing}, Book, FOUR, LETS + [thing, ("bob", "ann", ())])
        self.refused(NoLet, {"asked": ("bob", "ann", ())}, Book, FOUR, [("bob", "ann", ()), None])

    def test_refuses_what_is_no_list_or_tuple_of_lets(self):
        for thing in [None, True, False, 0, 7, "", "ann", {}, {LETS[0]: True}, {"ann": LETS}]:
            with self.subTest(thing=thing):
                self.refused(NoLet, {"asked": thing}, Book, FOUR, thing)

    def test_refuses_a_let_handed_in_alone(self):
        self.refused(NoLet, {"asked": "ann"}, Book, FOUR, ("ann", "bob", ()))

    def test_a_text_is_no_tuple_of_its_letters(self):
        self.refused(NoHands, {"asked": "ab"}, Book, "ab")
        self.refused(NoLet, {"asked": ("a", "b", "c")}, Book, ["a", "b", "c"], [("a", "b", "c")])
        self.assertIs(Book(["a", "b", "c"], [("a", "b", ("c",))]).has(("a", "b", "c")), False)

    def test_refuses_a_let_of_other_hands(self):
        self.refused(NoLet, {"asked": ("ann", "cay", ())}, Book, ["ann", "bob"], [("ann", "cay", ())])
        self.refused(NoLet, {"asked": ("ann", "bob", ("cay",))}, Book, ["ann", "bob"], [("ann", "bob", ("cay",))])

    def test_by_names(self):
        book = Book(lets=LETS, hands=FOUR)
        self.assertEqual(book, Book(FOUR, LETS))
        self.assertIs(book.has(thing=LETS[0]), True)

    def test_its_methods_are_its_own(self):
        for name in ("hands", "lets", "has", "__len__", "__eq__"):
            self.assertIn(name, vars(Book))


if __name__ == "__main__":
    unittest.main()
