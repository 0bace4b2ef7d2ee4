"""[29] Rows that bring most or least at prices, and papers; [2] of them."""

import unittest
from itertools import permutations

from aheadbook.errors import NotFalling
from aheadbook.falling import rise
from aheadbook.prices import best, bound_of, least
from aheadbook.worths import Worths
from tests.things import (
    NAMES,
    NO_SETS,
    NOTHINGS,
    Refusing,
    falling_tables,
    gains_by_words,
    of_set,
    other_tables,
    picked,
    sets_of,
)

THREE = NAMES[:3]
FOUR = NAMES[:4]
TABLE = {some: min(3, 2 * len(some)) for some in sets_of(THREE)}
WORTHS = Worths(THREE, TABLE)
PRICES = {"ann": 1, "bob": 5, "cay": 3}
PAPER = [(("bob",), 2), (("bob", "cay"), 2), (THREE, 1)]


def brought(table, prices, row):
    """What the row brings."""
    return sum(gain * prices[hand] for hand, gain in gains_by_words(table, row).items())


def some_prices(hands):
    """Prices below 0 and from 0 on, all alike, all unlike."""
    yield {hand: 0 for hand in hands}
    yield {hand: 4 for hand in hands}
    yield {hand: -4 for hand in hands}
    yield {hand: k for k, hand in enumerate(hands)}
    yield {hand: 3 - k for k, hand in enumerate(hands)}
    for seed in range(8):
        yield {hand: picked((seed, hand), 7) - 3 for hand in hands}


def paper_bound(hands, table, prices, paper, low):
    """The bound of what the words tell to be a paper, else None."""
    sets = [some for some, _ in paper]
    fits = (
        len(set(sets)) == len(sets)
        and all(sets)
        and all(some == hands or (number <= 0 if low else number >= 0) for some, number in paper)
        and all(sum(number for some, number in paper if hand in some) == prices[hand] for hand in hands)
    )
    return sum(number * table[some] for some, number in paper) if fits else None


class BestLeastTest(unittest.TestCase, Refusing):
    def check(self, hands, table, prices, low):
        worths = Worths(hands, table)
        kept = dict(prices)
        told = least(worths, prices) if low else best(worths, prices)
        self.assertIs(told.__class__, tuple)
        row, number, paper = told
        self.assertEqual(row, tuple(sorted(hands, key=lambda hand: (prices[hand] * (1 if low else -1), hand))))
        self.assertEqual(number, brought(table, prices, row))
        self.assertIs(paper.__class__, list)
        self.assertTrue(all(part.__class__ is tuple for part in paper))
        self.assertEqual(paper_bound(hands, table, prices, paper, low), number)
        self.assertEqual(bound_of(worths, prices, paper, low=low), number)
        self.assertEqual(prices, kept)
        return number

    def test_of_up_to_five_hands_by_going_through_rows(self):
        for many in range(1, 6):
            hands = NAMES[:many]
            for table in falling_tables(hands, 6):
                for prices in some_prices(hands):
                    every = [brought(table, prices, row) for row in permutations(hands)]
                    self.assertEqual(self.check(hands, table, prices, False), max(every))
                    self.assertEqual(self.check(hands, table, prices, True), min(every))

    def test_of_six_to_eight_hands(self):
        for many in (6, 7, 8):
            hands = NAMES[:many]
            for table in falling_tables(hands, 4):
                for prices in some_prices(hands):
                    most, fewest = self.check(hands, table, prices, False), self.check(hands, table, prices, True)
                    for row in [hands, hands[::-1], hands[3:] + hands[:3]]:
                        self.assertTrue(fewest <= brought(table, prices, row) <= most)

    def test_of_three_hands(self):
        row, number, paper = best(WORTHS, PRICES)
        self.assertEqual((row, number), (("bob", "cay", "ann"), 13))
        self.assertEqual(paper_bound(THREE, TABLE, PRICES, paper, False), 13)
        row, number, paper = least(WORTHS, PRICES)
        self.assertEqual((row, number), (("ann", "cay", "bob"), 5))
        self.assertEqual(paper_bound(THREE, TABLE, PRICES, paper, True), 5)

    def test_hands_of_like_prices_by_rising_names(self):
        prices = {"bob": 1, "dan": 2, "ann": 1, "cay": 2}
        worths = Worths(FOUR, {some: len(some) for some in sets_of(FOUR)})
        self.assertEqual(best(worths, prices)[0], ("cay", "dan", "ann", "bob"))
        self.assertEqual(least(worths, prices)[0], ("ann", "bob", "cay", "dan"))

    def test_not_falling(self):
        for table in other_tables(FOUR, 12):
            let = rise(Worths(FOUR, table))
            for call in (best, least):
                self.refused(NotFalling, {"let": let}, call, Worths(FOUR, table), {hand: 1 for hand in FOUR})

    def test_a_told_paper_is_the_askers_own(self):
        for call in (best, least):
            wanted = list(call(WORTHS, PRICES)[2])
            call(WORTHS, PRICES)[2].clear()
            self.assertEqual(call(WORTHS, PRICES)[2], wanted)

    def test_by_names(self):
        self.assertEqual(best(prices=PRICES, worths=WORTHS)[1], 13)
        self.assertEqual(least(prices=PRICES, worths=WORTHS)[1], 5)


class BoundTest(unittest.TestCase):
    def test_of_each_paper(self):
        self.assertEqual(bound_of(WORTHS, PRICES, PAPER), 4 + 6 + 3)
        self.assertEqual(bound_of(WORTHS, PRICES, PAPER[::-1]), 13)
        single = [(("ann",), 1), (("bob",), 5), (("cay",), 3)]
        self.assertEqual(bound_of(WORTHS, PRICES, single), 18)
        self.assertEqual(bound_of(WORTHS, PRICES, single, low=False), 18)
        more = [(("ann",), 2), (("bob",), 6), (("cay",), 4), (THREE, -1)]
        self.assertEqual(bound_of(WORTHS, PRICES, more), 24 - 3)
        # A set with the number 0 is no matter.
        self.assertEqual(bound_of(WORTHS, PRICES, PAPER + [(("ann",), 0)]), 13)
        low = [(("ann",), -4), (("ann", "cay"), 0), (("cay",), -2), (THREE, 5)]
        self.assertEqual(bound_of(WORTHS, PRICES, low, low=True), -8 - 4 + 15)
        self.assertIsNone(bound_of(WORTHS, PRICES, low))
        self.assertIsNone(bound_of(WORTHS, PRICES, PAPER, low=True))
        nothing = {hand: 0 for hand in THREE}
        for some in (False, True):
            self.assertEqual(bound_of(WORTHS, nothing, [], low=some), 0)
            self.assertEqual(bound_of(WORTHS, {hand: 2 for hand in THREE}, [(THREE, 2)], low=some), 6)
            self.assertEqual(bound_of(WORTHS, {hand: -2 for hand in THREE}, [(THREE, -2)], low=some), -6)
        self.assertIsNone(bound_of(WORTHS, PRICES, []))

    def test_no_row_brings_more_or_less(self):
        for table in falling_tables(FOUR, 5):
            worths = Worths(FOUR, table)
            for seed in range(40):
                sign = (-1) ** seed
                some = sorted({FOUR, *(sets_of(FOUR)[1 + picked((seed, k), 15)] for k in range(4))})
                paper = [(each, picked((seed, each), 4) * sign) for each in some]
                prices = {hand: of_set(dict(paper), [each for each in some if hand in each]) for hand in FOUR}
                told = bound_of(worths, prices, paper, low=sign < 0)
                self.assertEqual(told, sum(number * table[each] for each, number in paper))
                for row in permutations(FOUR):
                    self.assertLessEqual(brought(table, prices, row) * sign, told * sign)

    def test_of_worths_that_are_not_falling(self):
        for table in other_tables(THREE, 8):
            wanted = 2 * table[("bob",)] + 2 * table[("bob", "cay")] + table[THREE]
            self.assertEqual(bound_of(Worths(THREE, table), PRICES, PAPER), wanted)

    def test_with_one_thing_otherwise(self):
        for paper in [
            # A set twice.
            [(("bob",), 1), (("bob",), 1)] + PAPER[1:],
            PAPER + [(THREE, 0)],
            PAPER + [(("bob",), 0)],
            # The empty set.
            PAPER + [((), 0)],
            PAPER + [((), 3)],
            # A number below 0 for another set than all hands.
            [(("bob",), 3), (("bob", "cay"), 1), (("cay",), 1), (("ann", "bob"), -1), (THREE, 2)][:4] + [(THREE, 2)],
            [(("bob", "cay"), 4), (("cay",), -2), (THREE, 1)],
            # Numbers that don't add to a price.
            PAPER[:2],
            PAPER[1:],
            PAPER[:1] + PAPER[2:],
            PAPER + [(("ann",), 1)],
            [(("bob",), 3)] + PAPER[1:],
            # Other things.
            tuple(PAPER),
            dict(PAPER),
            [list(part) for part in PAPER],
            PAPER[:2] + [(list(THREE), 1)],
            PAPER[:2] + [(THREE, True)],
            PAPER[:2] + [(THREE, "1")],
            PAPER[:2] + [(THREE, None)],
            PAPER[:2] + [(THREE, 1, 1)],
            PAPER[:2] + [(THREE,)],
            PAPER[:2] + [(THREE[::-1], 1)],
            PAPER[:2] + [(THREE + ("dan",), 1)],
            PAPER + [None],
            PAPER + [()],
            PAPER + [(("ann",), False)],
        ]:
            with self.subTest(paper=paper):
                self.assertIsNone(bound_of(WORTHS, PRICES, paper))
                self.assertIsNone(bound_of(WORTHS, PRICES, paper, low=True))

    def test_a_number_beyond_0_of_least(self):
        low = least(WORTHS, PRICES)[2]
        self.assertEqual(bound_of(WORTHS, PRICES, low, low=True), 5)
        self.assertIsNone(bound_of(WORTHS, PRICES, low))
        mixed = [(("ann",), -5), (("cay",), -3), (("bob",), 1), (("ann", "cay"), -0), (THREE, 4)]
        prices = {"ann": -1, "bob": 5, "cay": 1}
        self.assertIsNone(bound_of(WORTHS, prices, mixed, low=True))
        self.assertEqual(bound_of(WORTHS, prices, [(("ann",), -6), (("cay",), -4), (THREE, 5)], low=True), -5)

    def test_of_anything(self):
        nothing = {hand: 0 for hand in THREE}
        for thing in NOTHINGS + [(), [()], [None], [1], [[]], [THREE], [(THREE,)], "", 0]:
            with self.subTest(thing=thing):
                for low in (False, True):
                    self.assertIsNone(bound_of(WORTHS, PRICES, thing, low=low))
                    self.assertIsNone(bound_of(WORTHS, nothing, thing, low=low))
        worths = Worths(FOUR, {some: len(some) for some in sets_of(FOUR)})
        for thing in NO_SETS:
            self.assertIsNone(bound_of(worths, {hand: 0 for hand in FOUR}, [(thing, 0)]))

    def test_what_is_handed_in_stays(self):
        paper, prices = list(PAPER), dict(PRICES)
        bound_of(WORTHS, prices, paper)
        self.assertEqual((paper, prices), (PAPER, PRICES))

    def test_by_names(self):
        self.assertEqual(bound_of(thing=PAPER, prices=PRICES, worths=WORTHS), 13)
        with self.assertRaises(TypeError):
            bound_of(WORTHS, PRICES, PAPER, True)


if __name__ == "__main__":
    unittest.main()
