"""[8] Books made of pairs, of counts, of those between, and of a web; [2] of them."""

import unittest
from itertools import permutations

from aheadbook.books import Book
from aheadbook.errors import NoHands, NoWeb
from aheadbook.makers import by_between, by_counts, by_pairs, by_web
from tests.things import NAMES, NO_HANDS, NO_WEBS, Refusing, keeping, lets_of, webs_of

FOUR = ["dan", "ann", "cay", "bob"]


class ByPairsTest(unittest.TestCase, Refusing):
    def test_all_lets_of_the_pairs(self):
        for pairs in [
            [("ann", "bob"), ("cay", "dan")],
            (("dan", "cay"), ("bob", "ann")),
            [("bob", "ann"), ("cay", "dan"), ("ann", "bob"), ("cay", "dan")],
        ]:
            book = by_pairs(FOUR, pairs)
            self.assertIs(book.__class__, Book)
            self.assertEqual(book.hands(), ("ann", "bob", "cay", "dan"))
            self.assertEqual(
                book.lets(),
                [
                    ("ann", "bob", ()),
                    ("ann", "bob", ("cay",)),
                    ("ann", "bob", ("cay", "dan")),
                    ("ann", "bob", ("dan",)),
                    ("cay", "dan", ()),
                    ("cay", "dan", ("ann",)),
                    ("cay", "dan", ("ann", "bob")),
                    ("cay", "dan", ("bob",)),
                ],
            )

    def test_no_pairs_and_all_pairs(self):
        for many in range(1, 9):
            hands = NAMES[:many]
            self.assertEqual(by_pairs(hands, []), Book(hands))
            self.assertEqual(by_pairs(list(hands), tuple(permutations(hands, 2))), Book(hands, lets_of(hands)))

    def test_each_pair_alone(self):
        for a, b in permutations(NAMES[:5], 2):
            wanted = [let for let in lets_of(NAMES[:5]) if a in let[:2] and b in let[:2]]
            self.assertEqual(by_pairs(NAMES[:5], [(a, b)]).lets(), wanted)

    def test_refuses_what_are_no_hands(self):
        for thing in NO_HANDS:
            with self.subTest(thing=thing):
                self.refused(NoHands, {"asked": thing}, by_pairs, thing, [("ann", "bob")])

    def test_what_is_handed_in_stays(self):
        hands, pairs = ["bob", "ann"], [("bob", "ann"), ("ann", "bob")]
        book = by_pairs(hands, pairs)
        self.assertEqual((hands, pairs), (["bob", "ann"], [("bob", "ann"), ("ann", "bob")]))
        hands.append("cay")
        pairs.clear()
        self.assertEqual(book, Book(["ann", "bob"], [("ann", "bob", ())]))

    def test_by_names(self):
        self.assertEqual(by_pairs(pairs=[], hands=["ann"]), Book(["ann"]))


class ByCountsTest(unittest.TestCase, Refusing):
    def test_all_lets_with_a_told_number_ahead(self):
        for many in range(1, 7):
            hands = list(reversed(NAMES[:many]))
            for counts in [[], (), [0], (1,), [2, 0], (0, 1, 2, 3, 4, 5, 6), [1, 1, 3, 1], [7, 2, 10 ** 29], [99]]:
                book = by_counts(hands, counts)
                self.assertIs(book.__class__, Book)
                self.assertEqual(book.hands(), NAMES[:many])
                self.assertEqual(book.lets(), [let for let in lets_of(hands) if len(let[2]) in counts])

    def test_of_three_hands(self):
        self.assertEqual(
            by_counts(["ann", "bob", "cay"], [1]).lets(),
            [("ann", "bob", ("cay",)), ("ann", "cay", ("bob",)), ("bob", "cay", ("ann",))],
        )

    def test_refuses_what_are_no_hands(self):
        for thing in NO_HANDS:
            with self.subTest(thing=thing):
                self.refused(NoHands, {"asked": thing}, by_counts, thing, [0])

    def test_what_is_handed_in_stays(self):
        hands, counts = ["bob", "ann"], [1, 0, 1]
        book = by_counts(hands, counts)
        self.assertEqual((hands, counts), (["bob", "ann"], [1, 0, 1]))
        hands.append("cay")
        counts.clear()
        self.assertEqual(book, Book(["ann", "bob"], [("ann", "bob", ())]))

    def test_by_names(self):
        self.assertEqual(by_counts(counts=[0], hands=["ann", "bob"]), Book(["ann", "bob"], [("ann", "bob", ())]))


class ByBetweenTest(unittest.TestCase, Refusing):
    def wanted(self, hands, ahead, behind, both):
        found = []
        for p, q, members in lets_of(hands):
            inside = sum(p < hand < q for hand in members)
            outside = sum(p < hand < q for hand in hands) - inside
            truths = [ahead is not None and inside >= ahead, behind is not None and outside >= behind]
            if all(truths) if both else any(truths):
                found.append((p, q, members))
        return found

    def test_every_two_numbers(self):
        for many in range(1, 6):
            hands = NAMES[:many]
            for ahead in (None, 0, 1, 2, 3, 4, 10 ** 29):
                for behind in (None, 0, 1, 2, 3, 4, 10 ** 29):
                    for both in (False, True):
                        with self.subTest(many=many, ahead=ahead, behind=behind, both=both):
                            book = by_between(list(reversed(hands)), ahead, behind, both=both)
                            self.assertIs(book.__class__, Book)
                            self.assertEqual(book.hands(), hands)
                            self.assertEqual(book.lets(), self.wanted(hands, ahead, behind, both))

    def test_of_three_hands(self):
        hands = ["cay", "bob", "ann"]
        self.assertEqual(by_between(hands, 1, None).lets(), [("ann", "cay", ("bob",))])
        self.assertEqual(by_between(hands, None, 1).lets(), [("ann", "cay", ())])
        self.assertEqual(by_between(hands, 1, 1).lets(), [("ann", "cay", ()), ("ann", "cay", ("bob",))])
        self.assertEqual(by_between(hands, 1, 1, both=True).lets(), [])
        self.assertEqual(by_between(hands, 0, 1, both=True).lets(), [("ann", "cay", ())])
        self.assertEqual(len(by_between(hands, 0, None)), 6)
        self.assertEqual(len(by_between(hands, None, 0)), 6)
        self.assertEqual(len(by_between(hands, 0, 0, both=True)), 6)
        self.assertEqual(len(by_between(hands, 0, None, both=True)), 0)
        self.assertEqual(len(by_between(hands, None, 0, both=True)), 0)
        self.assertEqual(len(by_between(hands, None, None)), 0)
        self.assertEqual(len(by_between(hands, None, None, both=True)), 0)

    def test_eight_hands(self):
        self.assertEqual(by_between(NAMES, 2, 3, both=True).lets(), self.wanted(NAMES, 2, 3, True))
        self.assertEqual(by_between(NAMES, 4, 3).lets(), self.wanted(NAMES, 4, 3, False))

    def test_both_may_be_left_out_and_is_given_by_name_alone(self):
        self.assertEqual(by_between(FOUR, 1, 1), by_between(FOUR, 1, 1, both=False))
        with self.assertRaises(TypeError):
            by_between(FOUR, 1, 1, True)

    def test_refuses_what_are_no_hands(self):
        for thing in NO_HANDS:
            with self.subTest(thing=thing):
                self.refused(NoHands, {"asked": thing}, by_between, thing, 1, None)
                self.refused(NoHands, {"asked": thing}, by_between, thing, None, None, both=True)

    def test_what_is_handed_in_stays(self):
        hands = ["bob", "ann"]
        book = by_between(hands, 0, None)
        self.assertEqual(hands, ["bob", "ann"])
        hands.append("cay")
        self.assertEqual(book, Book(["ann", "bob"], [("ann", "bob", ())]))

    def test_by_names(self):
        self.assertEqual(by_between(both=True, behind=1, ahead=0, hands=FOUR), by_between(FOUR, 0, 1, both=True))


class ByWebTest(unittest.TestCase, Refusing):
    def test_every_web_of_up_to_four(self):
        for many in range(1, 5):
            hands = list(reversed(NAMES[:many]))
            for web in webs_of(hands):
                kept = set(keeping(hands, web))
                wanted = set()
                # Both can come next where a row and the one behind the change keep the web.
                for row in kept:
                    for k in range(many - 1):
                        if row[:k] + (row[k + 1], row[k]) + row[k + 2:] in kept:
                            wanted.add((*sorted(row[k:k + 2]), tuple(sorted(row[:k]))))
                book = by_web(hands, web)
                self.assertIs(book.__class__, Book)
                self.assertEqual(book.hands(), NAMES[:many])
                self.assertEqual(book.lets(), sorted(wanted))

    def test_of_three_hands(self):
        hands = ["cay", "bob", "ann"]
        self.assertEqual(
            by_web(hands, (("ann", "bob"),)).lets(),
            [("ann", "cay", ()), ("bob", "cay", ("ann",))],
        )

    def test_the_empty_web_and_a_chain_of_eight(self):
        chain = tuple((NAMES[j], NAMES[k]) for j in range(8) for k in range(j + 1, 8))
        self.assertEqual(by_web(list(reversed(NAMES)), ()), Book(NAMES, lets_of(NAMES)))
        self.assertEqual(by_web(NAMES, chain), Book(NAMES))

    def test_refuses_what_are_no_hands_first(self):
        for thing in NO_HANDS:
            for web in [(), None, [("ann", "bob")]]:
                with self.subTest(thing=thing, web=web):
                    self.refused(NoHands, {"asked": thing}, by_web, thing, web)

    def test_refuses_what_is_no_web(self):
        for thing in NO_WEBS:
            with self.subTest(thing=thing):
                self.refused(NoWeb, {"asked": thing}, by_web, FOUR, thing)

    def test_what_is_handed_in_stays(self):
        hands = ["bob", "ann"]
        book = by_web(hands, ())
        self.assertEqual(hands, ["bob", "ann"])
        hands.append("cay")
        self.assertEqual(book, Book(["ann", "bob"], [("ann", "bob", ())]))

    def test_by_names(self):
        self.assertEqual(by_web(web=(("ann", "bob"),), hands=["ann", "bob"]), Book(["ann", "bob"]))


if __name__ == "__main__":
    unittest.main()
