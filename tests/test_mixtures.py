"""[28] Mixtures of rows that pay what is told, and the gains of all rows; [2] of them."""

import time
import unittest
from itertools import permutations
from math import factorial

from aheadbook.errors import NotFalling, NotPaid
from aheadbook.falling import rise
from aheadbook.mixtures import all_gains, is_mixture, mixed
from aheadbook.payments import is_bar
from aheadbook.worths import Worths, capped, gains
from tests.test_payments import all_payments, first_bar
from tests.test_ways import NO_ROWS
from tests.things import (
    NAMES,
    NOTHINGS,
    Refusing,
    falling_tables,
    gains_by_words,
    of_set,
    other_tables,
    picked,
    sets_of,
)

THREE = NAMES[:3]
FOUR = NAMES[:4]
# Each alone is worth 2, two or three 3.
TABLE = {some: min(3, 2 * len(some)) for some in sets_of(THREE)}
WORTHS = Worths(THREE, TABLE)
EVEN = {hand: 1 for hand in THREE}
MIXTURE = [(("ann", "bob", "cay"), 1), (("bob", "cay", "ann"), 1), (("cay", "ann", "bob"), 1)]


def pays(hands, table, pay, mixture):
    """Whether, as the words tell, a list of rows with weights is a mixture of payments."""
    rows = [row for row, _ in mixture]
    told = [(gains_by_words(table, row), weight) for row, weight in mixture]
    whole = sum(weight for _, weight in mixture)
    return (
        1 <= len(mixture) <= len(hands)
        and len(set(rows)) == len(rows)
        and all(weight >= 1 for _, weight in mixture)
        and all(sum(gain[hand] * weight for gain, weight in told) == pay[hand] * whole for hand in hands)
    )


def mixtures_of(hands, many, scale):
    """Tables of falling worths, and payments that are mixtures: so many of each."""
    for at, table in enumerate(falling_tables(hands, many)):
        rows = [sorted(hands, key=lambda hand: picked((at, k, hand), 10 ** 6)) for k in range(2 * len(hands))]
        weights = [picked((at, k), scale) for k in range(len(rows))]
        weights[0] = max(1, weights[0])
        told = [gains_by_words(table, tuple(row)) for row in rows]
        # Worths that many times as great, so that the payments are whole numbers.
        great = {some: table[some] * sum(weights) for some in table}
        yield great, {hand: sum(gain[hand] * weight for gain, weight in zip(told, weights)) for hand in hands}


class MixedTest(unittest.TestCase, Refusing):
    def check(self, hands, table, pay):
        worths = Worths(hands, table)
        kept = dict(pay)
        told = mixed(worths, pay)
        self.assertIs(told.__class__, list)
        self.assertTrue(all(part.__class__ is tuple and part[1].__class__ is int for part in told))
        self.assertTrue(pays(hands, table, pay, told))
        self.assertIs(is_mixture(worths, pay, told), True)
        self.assertEqual(pay, kept)
        return len(told)

    def test_of_rows_mixed(self):
        for many in range(1, 9):
            hands = NAMES[:many]
            found = {self.check(hands, table, pay) for table, pay in mixtures_of(hands, 8, 4)}
            self.assertGreater(max(found), many // 2)

    def test_of_great_weights(self):
        for table, pay in mixtures_of(NAMES, 3, 10 ** 4):
            scale = 10 ** 20 + 39
            self.check(NAMES, {some: table[some] * scale for some in table}, {hand: pay[hand] * scale for hand in pay})

    def test_what_no_set_bars_is_a_mixture(self):
        bars = set()
        for hands, table, pay in all_payments(5):
            bar = first_bar(hands, table, pay, ("all", "more"))
            if bar is None:
                self.check(hands, table, pay)
            else:
                bars.add(bar[0])
                self.refused(NotPaid, {"bar": bar}, mixed, Worths(hands, table), pay)
                self.assertIs(is_bar(Worths(hands, table), pay, bar), True)
        self.assertEqual(bars, {"all", "more"})

    def test_of_three_hands(self):
        self.check(THREE, TABLE, EVEN)
        for a in range(-1, 4):
            for b in range(-1, 4):
                pay = {"ann": a, "bob": b, "cay": 3 - a - b}
                bar = first_bar(THREE, TABLE, pay, ("all", "more"))
                if bar is None:
                    self.check(THREE, TABLE, pay)
                else:
                    self.refused(NotPaid, {"bar": bar}, mixed, WORTHS, pay)

    def test_gains_of_a_row_are_a_mixture_of_one(self):
        for many in range(1, 6):
            hands = NAMES[:many]
            for table in falling_tables(hands, 4):
                for row in list(permutations(hands))[::7]:
                    self.assertEqual(self.check(hands, table, gains_by_words(table, row)), 1)

    def test_refused(self):
        self.refused(NotPaid, {"bar": ("all",)}, mixed, WORTHS, {"ann": 1, "bob": 1, "cay": 2})
        self.refused(NotPaid, {"bar": ("all",)}, mixed, WORTHS, {"ann": 9, "bob": 1, "cay": -8})
        self.refused(NotPaid, {"bar": ("more", ("ann",))}, mixed, WORTHS, {"ann": 9, "bob": 1, "cay": -7})
        self.refused(NotPaid, {"bar": ("more", ("bob", "cay"))}, mixed, WORTHS, {"ann": -1, "bob": 2, "cay": 2})

    def test_not_falling_goes_first(self):
        for table in other_tables(FOUR, 12):
            let = rise(Worths(FOUR, table))
            for pay in [gains_by_words(table, FOUR), {hand: 100 for hand in FOUR}]:
                self.refused(NotFalling, {"let": let}, mixed, Worths(FOUR, table), pay)

    def test_a_told_list_is_the_askers_own(self):
        told = mixed(WORTHS, EVEN)
        told.clear()
        self.check(THREE, TABLE, EVEN)

    def test_by_names(self):
        self.assertEqual(mixed(pay={"ann": -3}, worths=Worths(["ann"], {(): 0, ("ann",): -3})), [(("ann",), 1)])


class IsMixtureTest(unittest.TestCase):
    def test_any_that_fits(self):
        self.assertIs(is_mixture(WORTHS, EVEN, MIXTURE), True)
        self.assertIs(is_mixture(WORTHS, EVEN, MIXTURE[::-1]), True)
        self.assertIs(is_mixture(WORTHS, EVEN, [(row, 7 * 10 ** 25) for row, _ in MIXTURE]), True)
        backward = [(row[::-1], weight) for row, weight in MIXTURE]
        self.assertIs(is_mixture(WORTHS, EVEN, backward), True)
        # Unlike rows whose gains are alike.
        free = Worths(THREE, {some: len(some) for some in sets_of(THREE)})
        self.assertIs(is_mixture(free, EVEN, [(("ann", "bob", "cay"), 3), (("cay", "bob", "ann"), 1)]), True)

    def test_of_worths_that_are_not_falling(self):
        found = set()
        for table in other_tables(THREE, 12):
            rows = list(permutations(THREE))
            one, other = gains_by_words(table, rows[1]), gains_by_words(table, rows[4])
            worths = Worths(THREE, {some: table[some] * 3 for some in table})
            pay = {hand: one[hand] * 2 + other[hand] for hand in THREE}
            for mixture in [[(rows[1], 2), (rows[4], 1)], [(rows[4], 2), (rows[1], 4)], [(rows[1], 1), (rows[4], 2)]]:
                fits = pays(THREE, {some: table[some] * 3 for some in table}, pay, mixture)
                found.add(fits)
                self.assertIs(is_mixture(worths, pay, mixture), fits)
        self.assertEqual(found, {True, False})

    def test_with_one_thing_otherwise(self):
        for at in range(3):
            row, weight = MIXTURE[at]
            for part in [
                (row, 2),
                (row, 0),
                (row, -1),
                (row, True),
                (row, None),
                (row, "1"),
                (row, (1,)),
                (row, [1]),
                (row,),
                (row, 1, 1),
                [row, 1],
                (list(row), 1),
                (row[::-1], 1),
                (row[:2], 1),
                (row + ("dan",), 1),
                (None, 1),
                ((), 1),
                (1, row),
                None,
                row,
                {row: 1},
            ]:
                with self.subTest(at=at, part=part):
                    self.assertIs(is_mixture(WORTHS, EVEN, MIXTURE[:at] + [part] + MIXTURE[at + 1:]), False)
            self.assertIs(is_mixture(WORTHS, EVEN, MIXTURE[:at] + MIXTURE[at + 1:]), False)
        for hand in THREE:
            self.assertIs(is_mixture(WORTHS, {**EVEN, hand: 2}, MIXTURE), False)

    def test_weights_that_add_to_the_same(self):
        # Rows with weights of 0, or below, add to the payments, too: they are none.
        self.assertIs(is_mixture(WORTHS, EVEN, MIXTURE[:2] + [(MIXTURE[2][0], 0)]), False)
        free = Worths(FOUR, {some: len(some) for some in sets_of(FOUR)})
        pay = {hand: 1 for hand in FOUR}
        self.assertIs(is_mixture(free, pay, [(FOUR, 2), (FOUR[::-1], -1)]), False)
        self.assertIs(is_mixture(free, pay, [(FOUR, 1), (FOUR[::-1], 0)]), False)
        self.assertIs(is_mixture(free, pay, [(FOUR, True)]), False)

    def test_one_twice_one_more_none_at_all(self):
        free = Worths(THREE, {some: len(some) for some in sets_of(THREE)})
        rows = list(permutations(THREE))
        self.assertIs(is_mixture(free, EVEN, [(row, 1) for row in rows[:3]]), True)
        self.assertIs(is_mixture(free, EVEN, [(row, 1) for row in rows[:4]]), False)
        self.assertIs(is_mixture(free, EVEN, [(rows[0], 1), (rows[0], 1)]), False)
        self.assertIs(is_mixture(free, EVEN, [(rows[0], 1), (rows[1], 1), (rows[0], 2)]), False)
        self.assertIs(is_mixture(free, EVEN, []), False)
        nothing = Worths(THREE, {some: 0 for some in sets_of(THREE)})
        self.assertIs(is_mixture(nothing, {hand: 0 for hand in THREE}, []), False)

    def test_of_anything(self):
        for thing in NOTHINGS + [(), [()], [None], tuple(MIXTURE), dict(MIXTURE), [MIXTURE], (MIXTURE,), [[]], [1]]:
            with self.subTest(thing=thing):
                self.assertIs(is_mixture(WORTHS, EVEN, thing), False)
        for thing in NO_ROWS:
            self.assertIs(is_mixture(WORTHS, EVEN, [(thing, 1)]), False)
            self.assertIs(is_mixture(WORTHS, EVEN, MIXTURE[:2] + [(thing, 1)]), False)

    def test_what_is_handed_in_stays(self):
        mixture, pay = list(MIXTURE), dict(EVEN)
        is_mixture(WORTHS, pay, mixture)
        self.assertEqual((mixture, pay), (MIXTURE, EVEN))

    def test_by_names(self):
        self.assertIs(is_mixture(thing=MIXTURE, pay=EVEN, worths=WORTHS), True)


class AllGainsTest(unittest.TestCase):
    def test_by_going_through_all_rows(self):
        for many in range(1, 7):
            hands = NAMES[:many]
            for table in [*falling_tables(hands, 4), *other_tables(hands, 4)]:
                wanted = dict.fromkeys(hands, 0)
                for row in permutations(hands):
                    for hand, gain in gains_by_words(table, row).items():
                        wanted[hand] += gain
                told = all_gains(Worths(hands, table))
                self.assertIs(told.__class__, dict)
                self.assertEqual(told, wanted)

    def test_of_eight_hands_in_a_short_time(self):
        begun = time.perf_counter()
        for table in [*falling_tables(NAMES, 4), *other_tables(NAMES, 4)]:
            worths = Worths(NAMES, table)
            told = all_gains(worths)
            self.assertEqual(of_set(told, NAMES), factorial(8) * table[NAMES])
        self.assertLess(time.perf_counter() - begun, 30)
        self.assertEqual(all_gains(capped(NAMES, [(NAMES, 1)])), {hand: factorial(7) for hand in NAMES})
        self.assertEqual(all_gains(capped(NAMES, [(NAMES[:2], 1)])), {
            hand: factorial(8) // 2 * (hand in NAMES[:2]) for hand in NAMES
        })

    def test_a_told_dict_is_the_askers_own(self):
        told = all_gains(WORTHS)
        told.clear()
        self.assertEqual(all_gains(WORTHS), {hand: 6 for hand in THREE})
        self.assertEqual(gains(WORTHS, THREE), {"ann": 2, "bob": 1, "cay": 0})

    def test_by_names(self):
        self.assertEqual(all_gains(worths=WORTHS)["ann"], 6)


if __name__ == "__main__":
    unittest.main()
