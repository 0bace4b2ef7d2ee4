"""[24] Fair books by the webs of their lots; [2] of them."""

import time
import unittest
from itertools import combinations, permutations
from math import factorial

from aheadbook.books import Book
from aheadbook.breaches import is_fair
from aheadbook.bylots import book_of, both
from aheadbook.errors import Lacking, NoWeb, Torn, Twice
from aheadbook.fairlots import webs
from aheadbook.makers import by_counts, by_pairs
from tests.things import (
    NAMES,
    NO_WEBS,
    Refusing,
    bound_in,
    fair_books_of,
    fair_lets,
    following,
    keeping,
    lets_of,
    picked,
    some_lets,
    wanted_let,
    webs_of,
)

THREE = ("ann", "bob", "cay")
FOUR = ("ann", "bob", "cay", "dan")


def mixed_up(things, seed):
    """The things in another order."""
    return sorted(things, key=lambda thing: picked((seed, thing), 10 ** 6))


def chain(row):
    """The web that just this row keeps."""
    return tuple(sorted(combinations(row, 2)))


def refused_by_rows(hands, some):
    """What the words refuse of webs, by going through rows: the error's class and fields; None where they don't."""
    rows = [keeping(hands, web) for web in some]
    for first, second in combinations(range(len(some)), 2):
        if set(rows[first]) & set(rows[second]):
            return Twice, {"first": first, "second": second}
    number = factorial(len(hands)) - sum(len(each) for each in rows)
    if number:
        return Lacking, {"number": number}
    place = {row: k for k, each in enumerate(rows) for row in each}
    sides = {}
    for row in place:
        for k in range(len(row) - 1):
            other = row[:k] + (row[k + 1], row[k]) + row[k + 2:]
            sides.setdefault(wanted_let(row, k), set()).add(place[row] == place[other])
    torn = [let for let in sorted(sides) if len(sides[let]) == 2]
    return (Torn, {"let": torn[0]}) if torn else None


class BookOfTest(unittest.TestCase, Refusing):
    def test_of_the_webs_of_all_lots_in_any_order(self):
        for hands, lets in fair_books_of(5):
            book = Book(hands, lets)
            some = webs(book)
            for seed in range(3):
                told = book_of(mixed_up(hands, seed), mixed_up(some, seed))
                self.assertIs(told.__class__, Book)
                self.assertEqual(told, book)

    def test_of_six_to_eight_hands(self):
        begun = time.perf_counter()
        for many in (6, 7, 8):
            hands = NAMES[:many]
            pairs = [pair for pair in combinations(hands, 2) if pair not in [("ann", "cay"), ("bob", "fay")]]
            for book in [
                Book(hands, lets_of(hands)),
                by_counts(hands, range(2, many)),
                by_counts(hands, range(1, many)),
                by_pairs(hands, pairs),
                Book(hands, fair_lets(hands, some_lets(hands, 4, 35))),
            ]:
                some = webs(book)
                self.assertLessEqual(len(some), 150)
                self.assertEqual(book_of(list(hands), mixed_up(some, many)), book)
        five = NAMES[:5]
        self.assertEqual(book_of(five, [chain(row) for row in permutations(five)]), Book(five))
        self.assertLess(time.perf_counter() - begun, 30)

    def test_of_every_list_of_three_webs_of_three_hands(self):
        found = set()
        every = webs_of(THREE)
        for many in range(4):
            for some in permutations(every, many):
                wanted = refused_by_rows(THREE, some)
                if wanted is None:
                    book = book_of(THREE, list(some))
                    self.assertIs(is_fair(book), True)
                    self.assertEqual(webs(book), sorted(some))
                else:
                    found.add(wanted[0])
                    self.refused(wanted[0], wanted[1], book_of, THREE, list(some))
        self.assertEqual(found, {Twice, Lacking})

    def test_torn(self):
        # Row by row but for two: the let that leads from the one to the other is wanted by others, too.
        found = 0
        for hands in (FOUR, NAMES[:5]):
            rows = list(permutations(hands))
            for row in rows[::7]:
                for k in range(len(hands) - 1):
                    other = row[:k] + (row[k + 1], row[k]) + row[k + 2:]
                    some = [chain(each) for each in rows if each not in (row, other)]
                    some = mixed_up(some + [following(hands, bound_in([row, other]))], k)
                    wanted = refused_by_rows(hands, some)
                    if wanted is None:
                        self.assertEqual(book_of(hands, some), Book(hands, [wanted_let(row, k)]))
                    else:
                        found += 1
                        self.assertIs(wanted[0], Torn)
                        self.refused(*wanted, book_of, hands, some)
        self.assertGreater(found, 10)

    def test_the_first_torn_let(self):
        # Behind ann, and behind bob, a lot of two and two lots of one: the lets differ in two places.
        rows = list(permutations(FOUR))
        for seed in range(40):
            left, some = mixed_up(rows, seed), []
            while left:
                row = left[0]
                pairs = [(row, row[:k] + (row[k + 1], row[k]) + row[k + 2:]) for k in range(3)]
                fitting = [pair for pair in pairs if pair[1] in left]
                lot = fitting[picked((seed, row), len(fitting))] if fitting and picked((row, seed), 3) else (row,)
                some.append(tuple(bound_in(lot)))
                left = [other for other in left if other not in lot]
            wanted = refused_by_rows(FOUR, some)
            if wanted:
                self.refused(*wanted, book_of, FOUR, some)
            else:
                self.assertEqual(webs(book_of(FOUR, some)), sorted(some))

    def test_the_first_two_that_some_row_keeps(self):
        every = webs_of(FOUR)
        for seed in range(60):
            some = [every[picked((seed, k), len(every))] for k in range(8)]
            wanted = refused_by_rows(FOUR, some)
            self.refused(*wanted, book_of, FOUR, some)
        some = [chain(row) for row in (FOUR[::-1], FOUR, FOUR[1:] + FOUR[:1], FOUR)]
        self.refused(Twice, {"first": 1, "second": 3}, book_of, FOUR, some)
        # Neither breaks a pair of the other, yet no row keeps both.
        circle = [(("ann", "bob"), ("cay", "dan")), (("bob", "cay"), ("dan", "ann"))]
        self.refused(Lacking, {"number": 24 - 12}, book_of, FOUR, circle)

    def test_how_many_rows_are_lacking(self):
        self.refused(Lacking, {"number": 40320}, book_of, NAMES, [])
        self.refused(Lacking, {"number": 1}, book_of, ["ann"], [])
        self.refused(Lacking, {"number": 40320 - 1}, book_of, NAMES, [chain(NAMES)])
        self.refused(Lacking, {"number": 20160}, book_of, NAMES, [(("bob", "ann"),)])
        for hands, lets in fair_books_of(4):
            some = webs(Book(hands, lets))
            for at in range(len(some)):
                number = len(keeping(hands, some[at]))
                self.refused(Lacking, {"number": number}, book_of, hands, some[:at] + some[at + 1:])

    def test_what_is_no_web_goes_first(self):
        # Ahead of two alike, of lacking rows and of a torn let.
        for thing in NO_WEBS:
            with self.subTest(thing=thing):
                self.refused(NoWeb, {"asked": thing}, book_of, FOUR, [thing])
                self.refused(NoWeb, {"asked": thing}, book_of, FOUR, [(), (), thing, None])
                self.refused(NoWeb, {"asked": thing}, book_of, list(FOUR), [chain(FOUR), thing, (("zoe", "ann"),)])

    def test_two_kept_by_a_row_go_ahead_of_lacking_ones(self):
        self.refused(Twice, {"first": 0, "second": 1}, book_of, FOUR, [chain(FOUR)] * 3)

    def test_beyond_the_limit(self):
        hands = NAMES[:6]
        book = Book(hands, [("ann", "bob", ("cay",)), ("dan", "fay", ("ann", "bob", "cay"))])
        some = webs(book)
        self.assertGreater(len(some), 600)
        self.assertEqual(book_of(hands, some), book)

    def test_what_is_handed_in_stays(self):
        some = webs(by_counts(FOUR, [1, 2]))
        hands = list(FOUR[::-1])
        kept = list(some)
        told = book_of(hands, some)
        self.assertEqual((some, hands), (kept, list(FOUR[::-1])))
        some.clear()
        self.assertEqual(told, by_counts(FOUR, [1, 2]))

    def test_by_names(self):
        self.assertEqual(book_of(webs=[()], hands=THREE), Book(THREE, lets_of(THREE)))


class BothTest(unittest.TestCase, Refusing):
    def check(self, hands, one, other):
        told = both(hands, one, other)
        self.assertIs(told.__class__, tuple)
        word, thing = told
        self.assertIs(thing.__class__, tuple)
        if word == "row":
            self.assertIn(thing, keeping(hands, one + other))
        else:
            self.assertEqual(word, "circle")
            self.assertGreater(len(thing), 1)
            self.assertEqual(len(set(thing)), len(thing))
            self.assertTrue(all(pair in one + other for pair in zip(thing, thing[1:] + thing[:1])))
        return word

    def test_of_each_two_webs(self):
        every = webs_of(FOUR)
        words = set()
        for hands, some in [(THREE, webs_of(THREE)), (FOUR, every[::5])]:
            for one in some:
                for other in (webs_of(THREE) if hands == THREE else every[::7]):
                    rows = keeping(hands, one + other)
                    word = self.check(hands, one, other)
                    words.add(word)
                    self.assertEqual(word, "row" if rows else "circle")
        self.assertEqual(words, {"row", "circle"})

    def test_a_longer_circle(self):
        one, other = (("ann", "bob"), ("cay", "dan")), (("bob", "cay"), ("dan", "ann"))
        self.assertEqual(self.check(FOUR, one, other), "circle")
        self.assertEqual(len(both(FOUR, one, other)[1]), 4)
        self.assertEqual(both(FOUR, (("ann", "bob"),), (("bob", "ann"),))[0], "circle")

    def test_of_eight_hands_in_a_short_time(self):
        begun = time.perf_counter()
        rows = [NAMES, NAMES[::-1], NAMES[4:] + NAMES[:4], NAMES[::2] + NAMES[1::2], NAMES[1::2] + NAMES[::2]]
        some = [chain(row) for row in rows] + [tuple(bound_in([one, other])) for one in rows for other in rows]
        for _ in range(3):
            for one in some:
                for other in some:
                    word, thing = both(NAMES[::-1], one, other)
                    if word == "row":
                        self.assertTrue(all(thing.index(a) < thing.index(b) for a, b in one + other))
                        self.assertEqual(sorted(thing), list(NAMES))
                    else:
                        self.assertTrue(all(pair in one + other for pair in zip(thing, thing[1:] + thing[:1])))
        self.assertLess(time.perf_counter() - begun, 30)

    def test_one_hand(self):
        self.assertEqual(both(["ann"], (), ()), ("row", ("ann",)))

    def test_what_is_no_web(self):
        for thing in NO_WEBS:
            with self.subTest(thing=thing):
                self.refused(NoWeb, {"asked": thing}, both, FOUR, thing, ())
                self.refused(NoWeb, {"asked": thing}, both, FOUR, (), thing)
                self.refused(NoWeb, {"asked": thing}, both, FOUR, thing, None)

    def test_by_names(self):
        self.assertEqual(both(other=(("bob", "ann"),), one=(), hands=["bob", "ann"]), ("row", ("bob", "ann")))


if __name__ == "__main__":
    unittest.main()
