"""[9] Books as texts; [2] of them."""

import unittest
from itertools import chain, combinations

from aheadbook.books import Book
from aheadbook.booktexts import read_book, show_book
from aheadbook.errors import NoText
from tests.things import NAMES, NOTHINGS, Refusing, lets_of, some_lets

FOUR = ["dan", "ann", "cay", "bob"]
LETS = [("bob", "cay", ("ann", "dan")), ("ann", "bob", ()), ("ann", "dan", ("bob",)), ("ann", "bob", ("cay",))]
TEXT = "\n".join([
    "hands ann bob cay dan",
    "let ann bob",
    "let ann bob cay",
    "let ann dan bob",
    "let bob cay ann dan",
])


class ShowTest(unittest.TestCase):
    def test_without_lets(self):
        self.assertEqual(show_book(Book(FOUR)), "hands ann bob cay dan")
        self.assertEqual(show_book(Book(["bob"])), "hands bob")
        self.assertEqual(show_book(Book(NAMES)), "hands ann bob cay dan eve fay gus hal")

    def test_with_some_lets_told_in_any_order(self):
        for hands in [FOUR, tuple(sorted(FOUR)), list(reversed(FOUR))]:
            for lets in [LETS, tuple(LETS), sorted(LETS), sorted(LETS, reverse=True), LETS + LETS]:
                self.assertEqual(show_book(Book(hands, lets)), TEXT)

    def test_with_all_lets(self):
        self.assertEqual(
            show_book(Book(["cay", "ann", "bob"], lets_of(["ann", "bob", "cay"]))),
            "hands ann bob cay\nlet ann bob\nlet ann bob cay\nlet ann cay\nlet ann cay bob\nlet bob cay\nlet bob cay ann",
        )

    def test_rows_in_the_order_of_lets_not_of_texts(self):
        # As texts of rows these would stand the other way.
        lets = [("a", "b", ("c", "z")), ("a", "b", ("cc",))]
        self.assertEqual(show_book(Book(["a", "b", "c", "cc", "z"], lets)), "hands a b c cc z\nlet a b c z\nlet a b cc")

    def test_eight_hands_and_all_lets(self):
        rows = show_book(Book(NAMES, lets_of(NAMES))).split("\n")
        self.assertEqual(rows[0], "hands " + " ".join(NAMES))
        self.assertEqual(rows[1:], [" ".join(["let", p, q, *ahead]) for p, q, ahead in lets_of(NAMES)])

    def test_by_names(self):
        self.assertEqual(show_book(book=Book(["ann"])), "hands ann")


class ReadTest(unittest.TestCase, Refusing):
    def test_each_written_text_tells_an_equal_book(self):
        for many in range(1, 9):
            hands = NAMES[:many]
            for seed, share in enumerate([0, 5, 20, 50, 80, 100]):
                book = Book(hands, some_lets(hands, seed, share))
                told = read_book(show_book(book))
                self.assertIs(told.__class__, Book)
                self.assertEqual(told, book)

    def test_names_that_are_words_of_the_text(self):
        book = Book(["let", "hands", "a", "zzzzzzzz"], [("hands", "let", ("a",)), ("a", "let", ("hands", "zzzzzzzz"))])
        self.assertEqual(show_book(book), "hands a hands let zzzzzzzz\nlet a let hands zzzzzzzz\nlet hands let a")
        self.assertEqual(read_book(show_book(book)), book)

    def test_refuses_what_is_no_text(self):
        for thing in NOTHINGS + [(), [], ["hands ann"], ("hands", "ann"), {"hands": "ann"}, Book(["ann"])]:
            with self.subTest(thing=thing):
                self.refused(NoText, {"row": 0}, read_book, thing)

    def test_refuses_a_first_row_that_lists_no_hands(self):
        for row in [
            "",
            " ",
            "hands",
            "hands ",
            "hand ann",
            "Hands ann",
            "ann bob",
            "let ann bob",
            " hands ann",
            "hands  ann",
            "hands ann ",
            "hands ann  bob",
            "hands bob ann",
            "hands ann ann",
            "hands ann bob ann",
            "hands Ann",
            "hands ann bob2",
            "hands ann, bob",
            "hands ninesigns",
            "hands " + " ".join(NAMES + ("zoe",)),
            "hands ann bob let ann bob",
            "handsann bob",
            "ann bob hands",
        ]:
            with self.subTest(row=row):
                self.refused(NoText, {"row": 0}, read_book, row)
                self.refused(NoText, {"row": 0}, read_book, row + "\nlet ann bob")
                self.refused(NoText, {"row": 0}, read_book, row + "\n" + TEXT)

    def test_refuses_a_row_that_tells_no_let(self):
        rows = TEXT.split("\n")
        for row in [
            "",
            " ",
            "let",
            "let ",
            "let bob",
            "let bob ",
            "let bob cay ",
            "let  bob cay",
            " let bob cay",
            "let bob  cay",
            "let bob cay ann ",
            "let bob cay  ann",
            "let cay bob",
            "let bob bob",
            "let bob cay bob",
            "let bob cay cay",
            "let bob cay dan ann",
            "let bob cay ann ann",
            "let bob cay zoe",
            "let bob zoe",
            "let zoe zoo",
            "let bob Cay",
            "let bob cay\t",
            "lets bob cay",
            "Let bob cay",
            "bob cay",
            "hands ann bob cay dan",
            "bob let cay",
            "let (bob, cay)",
        ]:
            for at in range(1, 6):
                with self.subTest(row=row, at=at):
                    self.refused(NoText, {"row": at}, read_book, "\n".join(rows[:at] + [row] + rows[at:]))
                    self.refused(NoText, {"row": at}, read_book, "\n".join(rows[:at] + [row]))

    def test_refuses_lets_told_again_or_out_of_order(self):
        rows = TEXT.split("\n")
        for at in range(1, 5):
            self.refused(NoText, {"row": at + 1}, read_book, "\n".join(rows[:at + 1] + rows[at:]))
            self.refused(NoText, {"row": 5}, read_book, "\n".join(rows + [rows[at]]))
        self.refused(NoText, {"row": 2}, read_book, "\n".join([rows[0], rows[2], rows[1]]))
        self.refused(NoText, {"row": 4}, read_book, "\n".join([rows[0], rows[1], rows[2], rows[4], rows[3], "no"]))

    def test_refuses_a_line_feed_at_an_end(self):
        self.refused(NoText, {"row": 5}, read_book, TEXT + "\n")
        self.refused(NoText, {"row": 0}, read_book, "\n" + TEXT)
        self.refused(NoText, {"row": 1}, read_book, "hands ann\n")
        self.refused(NoText, {"row": 1}, read_book, "hands ann\n\n")

    def test_no_row_is_left_behind_the_greatest_let(self):
        text = show_book(Book(["ann", "bob"], [("ann", "bob", ())]))
        for row in ["let ann bob", "let ann cay", "", "hands ann bob"]:
            self.refused(NoText, {"row": 2}, read_book, text + "\n" + row)

    def test_just_as_all_texts_of_three_hands_tell(self):
        hands = ("ann", "bob", "cay")
        lets = lets_of(hands)
        texts = {
            tuple(show_book(Book(hands, some)).split("\n"))
            for some in chain.from_iterable(combinations(lets, many) for many in range(7))
        }
        starts = {text[:many] for text in texts for many in range(len(text) + 1)}
        rows = sorted({row for text in texts for row in text} | {"", "let ann bob dan", "let bob ann", "let ann  bob"})
        for body in chain.from_iterable(combinations(rows, many) for many in range(1, 5)):
            for text in [body, tuple(reversed(body)), ("hands ann bob cay",) + body, body[1:] + body[:1]]:
                wrong = [k for k in range(len(text)) if text[:k + 1] not in starts]
                if wrong:
                    self.refused(NoText, {"row": wrong[0]}, read_book, "\n".join(text))
                else:
                    self.assertEqual(show_book(read_book("\n".join(text))), "\n".join(text))

    def test_each_sign_left_out_or_told_twice(self):
        for k in range(TEXT.index("\n"), len(TEXT)):
            row = TEXT[:k].count("\n")
            with self.subTest(k=k):
                self.refused(NoText, {"row": row}, read_book, TEXT[:k] + TEXT[k + 1:])
                self.refused(NoText, {"row": row + (TEXT[k] == "\n")}, read_book, TEXT[:k + 1] + TEXT[k:])

    def test_by_names(self):
        self.assertEqual(read_book(text=TEXT), Book(FOUR, LETS))


if __name__ == "__main__":
    unittest.main()
