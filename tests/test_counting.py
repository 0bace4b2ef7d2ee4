"""[17] Rows that keep a web, counted and numbered; [2] of them."""

import time
import unittest
from itertools import combinations, permutations
from math import comb, factorial

from aheadbook.counting import count_ahead, count_rows, number_of, places_of, row_at
from aheadbook.errors import NoHand, NoNumber, NoRow, NoWeb
from tests.things import NAMES, NO_WEBS, NOTHINGS, Refusing, following, keeping, webs_of

FOUR = ["dan", "ann", "cay", "bob"]
WEB = (("ann", "bob"), ("ann", "dan"), ("cay", "dan"))
ROWS = [
    ("ann", "bob", "cay", "dan"),
    ("ann", "cay", "bob", "dan"),
    ("ann", "cay", "dan", "bob"),
    ("cay", "ann", "bob", "dan"),
    ("cay", "ann", "dan", "bob"),
]
CHAIN = tuple((NAMES[j], NAMES[k]) for j in range(8) for k in range(j + 1, 8))
# Four of each chain stand in their order, the chains beside one another.
CHAINS = tuple(sorted((chain[j], chain[k]) for chain in (NAMES[::2], NAMES[1::2]) for j, k in combinations(range(4), 2)))
# Of FOUR.
NO_HANDS_OF = [thing for thing in NOTHINGS if thing != "ann"] + [
    (),
    [],
    0,
    1,
    "zoe",
    "Ann",
    "an",
    "a",
    ("ann",),
    ["ann"],
    {"ann": "ann"},
    (("ann",),),
]
# Of FOUR and WEB.
NO_ROWS = NOTHINGS + [
    (),
    [],
    ["ann", "bob", "cay", "dan"],
    ("ann", "bob", "cay"),
    ("ann", "bob", "cay", "cay"),
    ("ann", "bob", "cay", "eve"),
    ("ann", "bob", "cay", "dan", "eve"),
    ("ann", "bob", "cay", "dan", "dan"),
    ("ann", "bob", "cay", None),
    ("ann", "bob", "cay", ["dan"]),
    (("ann", "bob", "cay", "dan"),),
    "ann bob cay dan",
    {"ann": 0, "bob": 1, "cay": 2, "dan": 3},
]


def some_webs():
    """Webs of five hands, here and there, that names do not follow."""
    five = NAMES[:5]
    for row in list(permutations(five))[::29]:
        for shape in [[], [(0, 1)], [(0, 1), (0, 2), (3, 4)], [(0, 1), (1, 2), (0, 3)], [(0, 4), (1, 4), (2, 3)]]:
            yield five, following(five, [(row[j], row[k]) for j, k in shape])


def all_webs():
    for many in range(1, 5):
        for web in webs_of(NAMES[:many]):
            yield NAMES[:many], web
    yield from some_webs()


class GoingTest(unittest.TestCase, Refusing):
    def test_of_four_hands(self):
        self.assertEqual(count_rows(FOUR, WEB), 5)
        self.assertEqual([row_at(FOUR, WEB, number) for number in range(5)], ROWS)
        self.assertEqual([number_of(FOUR, WEB, row) for row in ROWS], [0, 1, 2, 3, 4])
        told = places_of(FOUR, WEB, "bob")
        self.assertIs(told.__class__, list)
        self.assertEqual(told, [0, 1, 2, 2])
        self.assertEqual(places_of(FOUR, WEB, "ann"), [3, 2, 0, 0])
        self.assertEqual(places_of(FOUR, WEB, "dan"), [0, 0, 2, 3])
        self.assertEqual(count_ahead(FOUR, WEB, "ann", "cay"), 3)
        self.assertEqual(count_ahead(FOUR, WEB, "cay", "ann"), 2)
        self.assertEqual(count_ahead(FOUR, WEB, "bob", "cay"), 1)
        self.assertEqual(count_ahead(FOUR, WEB, "ann", "bob"), 5)
        self.assertEqual(count_ahead(FOUR, WEB, "bob", "ann"), 0)

    def test_just_as_going_through_rows_tells(self):
        for hands, web in all_webs():
            rows = keeping(hands, web)
            given = list(reversed(hands))
            with self.subTest(web=web):
                self.assertEqual(count_rows(given, web), len(rows))
                self.assertEqual([row_at(given, web, number) for number in range(len(rows))], rows)
                self.assertEqual([number_of(given, web, row) for row in rows], list(range(len(rows))))
                for hand in hands:
                    self.assertEqual(
                        places_of(given, web, hand),
                        [sum(row[k] == hand for row in rows) for k in range(len(hands))],
                    )
                    self.assertEqual(repr(count_ahead(given, web, hand, hand)), "0")
                for one, other in permutations(hands, 2):
                    wanted = sum(row.index(one) < row.index(other) for row in rows)
                    self.assertEqual(count_ahead(given, web, one, other), wanted)

    def test_rows_that_do_not_keep_the_web_have_no_number(self):
        for hands, web in list(all_webs())[::3]:
            kept = keeping(hands, web)
            for row in permutations(hands):
                if row not in kept:
                    self.refused(NoRow, {"asked": row}, number_of, hands, web, row)
            for number in [len(kept), -1, -len(kept), len(kept) + 1]:
                self.refused(NoNumber, {"asked": number}, row_at, hands, web, number)


class EightTest(unittest.TestCase):
    def test_without_any_pair(self):
        self.assertEqual(count_rows(list(reversed(NAMES)), ()), 40320)
        self.assertEqual(row_at(NAMES, (), 0), NAMES)
        self.assertEqual(row_at(list(reversed(NAMES)), (), 40319), tuple(reversed(NAMES)))
        self.assertEqual(row_at(NAMES, (), 5040), ("bob", "ann") + NAMES[2:])
        for number in range(0, 40320, 997):
            row, left, rest = (), number, list(NAMES)
            for many in range(7, -1, -1):
                row = row + (rest.pop(left // factorial(many)),)
                left = left % factorial(many)
            self.assertEqual(row_at(NAMES, (), number), row)
            self.assertEqual(number_of(NAMES, (), row), number)
        for hand in NAMES:
            self.assertEqual(places_of(NAMES, (), hand), [5040] * 8)
        for one, other in permutations(NAMES, 2):
            self.assertEqual(count_ahead(NAMES, (), one, other), 20160)

    def test_a_chain(self):
        self.assertEqual(count_rows(NAMES, CHAIN), 1)
        self.assertEqual(row_at(NAMES, CHAIN, 0), NAMES)
        self.assertEqual(number_of(NAMES, CHAIN, NAMES), 0)
        for k, hand in enumerate(NAMES):
            self.assertEqual(places_of(NAMES, CHAIN, hand), [int(place == k) for place in range(8)])

    def test_two_chains(self):
        rows = keeping(NAMES, CHAINS)
        self.assertEqual(len(rows), comb(8, 4))
        self.assertEqual(count_rows(NAMES, CHAINS), 70)
        for number, row in enumerate(rows):
            self.assertEqual(row_at(NAMES, CHAINS, number), row)
            self.assertEqual(number_of(NAMES, CHAINS, row), number)
        for hand in NAMES:
            self.assertEqual(places_of(NAMES, CHAINS, hand), [sum(row[k] == hand for row in rows) for k in range(8)])
        for one, other in permutations(NAMES, 2):
            wanted = sum(row.index(one) < row.index(other) for row in rows)
            self.assertEqual(count_ahead(NAMES, CHAINS, one, other), wanted)

    def test_each_in_a_short_time(self):
        # Going through 40320 rows each time would take far longer.
        begun = time.perf_counter()
        for k in range(100):
            count_rows(NAMES, ())
            self.assertEqual(number_of(NAMES, (), row_at(NAMES, (), 403 * k)), 403 * k)
            places_of(NAMES, (), NAMES[k % 8])
            count_ahead(NAMES, (), NAMES[k % 8], NAMES[-1 - k % 8])
        self.assertLess(time.perf_counter() - begun, 30)


class RefusedTest(unittest.TestCase, Refusing):
    def test_no_number(self):
        for thing in NOTHINGS + [(), [], 5, 6, -1, -5, (0,), [0], {0: 0}, "1"]:
            with self.subTest(thing=thing):
                self.refused(NoNumber, {"asked": thing}, row_at, FOUR, WEB, thing)

    def test_no_row(self):
        for thing in NO_ROWS + [row for row in permutations(sorted(FOUR)) if row not in ROWS]:
            with self.subTest(thing=thing):
                self.refused(NoRow, {"asked": thing}, number_of, FOUR, WEB, thing)

    def test_no_hand(self):
        for thing in NO_HANDS_OF:
            with self.subTest(thing=thing):
                self.refused(NoHand, {"asked": thing}, places_of, FOUR, WEB, thing)
                self.refused(NoHand, {"asked": thing}, count_ahead, FOUR, WEB, thing, "ann")
                self.refused(NoHand, {"asked": thing}, count_ahead, FOUR, WEB, "ann", thing)
                self.refused(NoHand, {"asked": thing}, count_ahead, FOUR, WEB, thing, thing)
                self.refused(NoHand, {"asked": thing}, count_ahead, FOUR, WEB, thing, "nobody")
                self.refused(NoHand, {"asked": "nobody"}, count_ahead, FOUR, WEB, "nobody", thing)

    def test_no_web_first(self):
        for thing in NO_WEBS:
            with self.subTest(thing=thing):
                asked = {"asked": thing}
                self.refused(NoWeb, asked, count_rows, FOUR, thing)
                for number in (0, -1, None):
                    self.refused(NoWeb, asked, row_at, FOUR, thing, number)
                for row in (ROWS[0], None, ("zoe",)):
                    self.refused(NoWeb, asked, number_of, FOUR, thing, row)
                for hand in ("ann", "zoe", None):
                    self.refused(NoWeb, asked, places_of, FOUR, thing, hand)
                    self.refused(NoWeb, asked, count_ahead, FOUR, thing, hand, hand)
                    self.refused(NoWeb, asked, count_ahead, FOUR, thing, hand, "ann")


class OwnTest(unittest.TestCase):
    def test_what_is_handed_in_stays_and_what_is_told_is_new(self):
        hands = ["dan", "ann", "cay", "bob"]
        told = places_of(hands, WEB, "bob")
        told.append("more")
        told[0] = None
        self.assertEqual(places_of(hands, WEB, "bob"), [0, 1, 2, 2])
        for call in [
            lambda: count_rows(hands, WEB),
            lambda: row_at(hands, WEB, 1),
            lambda: number_of(hands, WEB, ROWS[0]),
            lambda: count_ahead(hands, WEB, "ann", "bob"),
        ]:
            call()
            self.assertEqual(hands, ["dan", "ann", "cay", "bob"])

    def test_by_names(self):
        self.assertEqual(count_rows(web=WEB, hands=FOUR), 5)
        self.assertEqual(row_at(number=1, web=WEB, hands=FOUR), ROWS[1])
        self.assertEqual(number_of(row=ROWS[1], web=WEB, hands=FOUR), 1)
        self.assertEqual(places_of(hand="ann", web=WEB, hands=FOUR), [3, 2, 0, 0])
        self.assertEqual(count_ahead(other="cay", one="ann", web=WEB, hands=FOUR), 3)


if __name__ == "__main__":
    unittest.main()
