"""[26] Worths, gains, and worths that are made; [2] and [3] of them."""

import unittest
from itertools import permutations

from aheadbook.books import Book
from aheadbook.errors import BadWorths, NoHands, NoHead, NoRow, Unlike
from aheadbook.worths import Worths, capped, covering, gains, plus
from tests.test_ways import NO_ROWS
from tests.things import (
    NAMES,
    NO_HANDS,
    NO_SETS,
    NOTHINGS,
    Refusing,
    as_set,
    capped_table,
    covering_table,
    falling_tables,
    gains_by_words,
    other_tables,
    picked,
    sets_of,
    some_caps,
    some_goods,
    sum_table,
)

TWO = ("ann", "bob")
THREE = NAMES[:3]
FOUR = NAMES[:4]
TABLE = {(): 0, ("ann",): 3, ("bob",): -2, ("ann", "bob"): 5}
WORTHS = Worths(TWO, TABLE)


def tables(most):
    """Hands, and tables of worths."""
    for many in range(1, most + 1):
        hands = NAMES[:many]
        for table in [*falling_tables(hands, 5), *other_tables(hands, 5)]:
            yield hands, table


class WorthsTest(unittest.TestCase, Refusing):
    def test_of_tables_told_in_any_order(self):
        for hands, table in tables(8):
            for seed in range(2):
                sets = sorted(table, key=lambda some: picked((seed, some), 10 ** 6))
                ordered = sorted(hands, key=lambda hand: picked((seed, hand), 10 ** 6))
                worths = Worths(ordered, {some: table[some] for some in sets})
                self.assertEqual(worths.hands(), hands)
                self.assertEqual(len(worths), 2 ** len(hands))
                self.assertEqual(worths, Worths(hands, table))
                for some in table:
                    self.assertEqual(worths.worth(some), table[some])

    def test_of_two_hands(self):
        self.assertEqual(WORTHS.hands(), TWO)
        self.assertEqual([WORTHS.worth(some) for some in [(), ("ann",), ("bob",), TWO]], [0, 3, -2, 5])
        self.assertEqual(len(WORTHS), 4)
        great = Worths(["ann"], {(): 0, ("ann",): -(10 ** 29)})
        self.assertEqual(great.worth(("ann",)), -(10 ** 29))

    def test_equal_just_where_hands_and_all_worths_are(self):
        self.assertEqual(WORTHS, Worths(["bob", "ann"], dict(TABLE)))
        self.assertFalse(WORTHS != Worths(TWO, TABLE))
        for some in TABLE:
            if some:
                other = Worths(TWO, {**TABLE, some: TABLE[some] + 1})
                self.assertNotEqual(WORTHS, other)
                self.assertFalse(WORTHS == other)
        for hands in [("ann",), ("ann", "cay"), ("ann", "bob", "cay")]:
            nothing = Worths(hands, {some: 0 for some in sets_of(hands)})
            self.assertNotEqual(nothing, Worths(TWO, {some: 0 for some in sets_of(TWO)}))

    def test_equal_to_nothing_else(self):
        for thing in NOTHINGS + [TABLE, list(TABLE.items()), Book(TWO), TWO, (TWO, TABLE), 4, object()]:
            self.assertIs(WORTHS == thing, False)
            self.assertIs(thing == WORTHS, False)
            self.assertIs(WORTHS != thing, True)

    def test_no_hands_first(self):
        for thing in NO_HANDS:
            with self.subTest(thing=thing):
                for table in (TABLE, None, {}):
                    self.refused(NoHands, {"asked": thing}, Worths, thing, table)

    def test_the_first_set_that_has_no_whole_number(self):
        for hands in (("ann",), TWO, FOUR):
            table = {some: 1 for some in sets_of(hands)}
            table[()] = 0
            for some in sets_of(hands):
                for thing in [None, True, False, "1", (), (1,), [1], {}, {1: 1}]:
                    self.refused(BadWorths, {"asked": some}, Worths, hands, {**table, some: thing})
                    # A later one, and other keys, are no matter.
                    later = {**table, some: thing, hands[-1:]: None, "ann": 1}
                    self.refused(BadWorths, {"asked": some}, Worths, hands, later)
                lacking = {key: table[key] for key in table if key != some}
                self.refused(BadWorths, {"asked": some}, Worths, hands, lacking)
                self.refused(BadWorths, {"asked": some}, Worths, hands, {**lacking, "ann": 1, None: 0})

    def test_the_empty_one_with_another_number_than_0(self):
        for number in [1, -1, 10 ** 29]:
            self.refused(BadWorths, {"asked": ()}, Worths, TWO, {**TABLE, (): number})
            self.refused(BadWorths, {"asked": ()}, Worths, TWO, {(): number})

    def test_none_where_something_else_is_a_key_or_it_is_no_dict(self):
        keys = [None, True, 0, 1, "", "ann", ("bob", "ann"), ("ann", "ann"), ("cay",), ("ann", "bob", "cay"), ((),)]
        for key in keys:
            self.refused(BadWorths, {"asked": None}, Worths, TWO, {**TABLE, key: 0})
            self.refused(BadWorths, {"asked": None}, Worths, TWO, {key: None, **TABLE})
        for thing in NOTHINGS:
            if not isinstance(thing, dict):
                self.refused(BadWorths, {"asked": None}, Worths, TWO, thing)
            else:
                self.refused(BadWorths, {"asked": ()}, Worths, TWO, thing)
        for thing in [list(TABLE), tuple(TABLE), list(TABLE.items()), [TABLE], (TABLE,)]:
            self.refused(BadWorths, {"asked": None}, Worths, TWO, thing)

    def test_worth_of_what_is_no_set(self):
        worths = Worths(FOUR, {some: len(some) for some in sets_of(FOUR)})
        for thing in NO_SETS:
            with self.subTest(thing=thing):
                self.refused(NoHead, {"asked": thing}, worths.worth, thing)

    def test_what_is_kept_is_a_copy(self):
        hands, table = list(TWO), dict(TABLE)
        worths = Worths(hands, table)
        table[("ann",)] = 100
        del table[("bob",)]
        hands.append("cay")
        self.assertEqual(worths, WORTHS)
        table = dict(TABLE)
        Worths(TWO, table)
        self.assertEqual(list(table.items()), list(TABLE.items()))

    def test_by_names(self):
        worths = Worths(table=TABLE, hands=TWO)
        self.assertEqual(worths.worth(thing=("ann",)), 3)


class GainsTest(unittest.TestCase, Refusing):
    def test_of_each_row(self):
        for hands, table in tables(5):
            worths = Worths(hands, table)
            for row in permutations(hands):
                told = gains(worths, row)
                self.assertIs(told.__class__, dict)
                self.assertEqual(told, gains_by_words(table, row))

    def test_of_two_hands(self):
        self.assertEqual(gains(WORTHS, ("ann", "bob")), {"ann": 3, "bob": 2})
        self.assertEqual(gains(WORTHS, ("bob", "ann")), {"ann": 7, "bob": -2})

    def test_of_eight_hands(self):
        for table in falling_tables(NAMES, 3):
            row = NAMES[3:] + NAMES[:3]
            self.assertEqual(gains(Worths(NAMES, table), row), gains_by_words(table, row))

    def test_no_row(self):
        worths = Worths(THREE, {some: 0 for some in sets_of(THREE)})
        for thing in NO_ROWS:
            with self.subTest(thing=thing):
                self.refused(NoRow, {"asked": thing}, gains, worths, thing)

    def test_a_told_dict_is_the_askers_own(self):
        told = gains(WORTHS, TWO)
        told.clear()
        self.assertEqual(gains(WORTHS, TWO), {"ann": 3, "bob": 2})

    def test_by_names(self):
        self.assertEqual(gains(row=TWO, worths=WORTHS), {"ann": 3, "bob": 2})


class MadeTest(unittest.TestCase, Refusing):
    def test_plus(self):
        for hands, table in tables(4):
            for other in other_tables(hands, 3):
                one, two = Worths(hands, table), Worths(hands[::-1], other)
                self.assertEqual(plus(one, two), Worths(hands, sum_table(table, other)))
                self.assertEqual(plus(two, one), Worths(hands, sum_table(table, other)))
                self.assertEqual((one, two), (Worths(hands, table), Worths(hands, other)))

    def test_plus_of_other_hands(self):
        for hands in [("ann",), ("ann", "cay"), ("ann", "bob", "cay"), ("anna", "bob")]:
            other = Worths(hands, {some: 0 for some in sets_of(hands)})
            self.refused(Unlike, {}, plus, WORTHS, other)
            self.refused(Unlike, {}, plus, other, WORTHS)

    def test_covering(self):
        for many in range(1, 9):
            hands = NAMES[:many]
            for seed in range(6):
                goods, prices = some_goods(hands, seed)
                told = covering(hands[::-1], goods, prices)
                self.assertEqual(told, Worths(hands, covering_table(hands, goods, prices)))
                self.assertEqual((goods, prices), some_goods(hands, seed))

    def test_covering_goods_twice_of_nobody_of_price_0(self):
        goods = {"ann": ["x", "y", "x"], "bob": ["y"], "cay": []}
        told = covering(["cay", "bob", "ann"], goods, {"x": 2, "y": 5, "z": 100, "w": 0})
        worths = {(): 0, ("ann",): 7, ("bob",): 5, ("cay",): 0, ("ann", "bob"): 7, ("ann", "cay"): 7, ("bob", "cay"): 5}
        self.assertEqual(told, Worths(THREE, {**worths, THREE: 7}))
        free = covering(TWO, {"ann": ["x"], "bob": ["x"]}, {"x": 0})
        self.assertEqual(free, Worths(TWO, {some: 0 for some in sets_of(TWO)}))
        self.assertEqual(covering(TWO, {"ann": [], "bob": []}, {}), free)

    def test_capped(self):
        for many in range(1, 9):
            hands = NAMES[:many]
            for seed in range(6):
                rows = some_caps(hands, seed)
                told = capped(list(hands[::-1]), rows)
                self.assertEqual(told, Worths(hands, capped_table(hands, rows)))
                self.assertEqual(rows, some_caps(hands, seed))

    def test_capped_on_all_on_none_at_0(self):
        for most in (2, 3, 9):
            wanted = Worths(THREE, {some: min(most, len(some)) for some in sets_of(THREE)})
            self.assertEqual(capped(THREE, [(THREE, most)]), wanted)
        nothing = Worths(THREE, {some: 0 for some in sets_of(THREE)})
        for rows in ([], [((), 3)], [(THREE, 0)], [((), 0), (("ann",), 0)]):
            self.assertEqual(capped(THREE, rows), nothing)
        twice = capped(THREE, [(("ann", "cay"), 1), (("ann", "cay"), 1)])
        self.assertEqual([twice.worth(some) for some in [("ann",), ("bob",), ("ann", "cay")]], [2, 0, 2])

    def test_no_hands(self):
        for thing in NO_HANDS:
            self.refused(NoHands, {"asked": thing}, covering, thing, {}, {})
            self.refused(NoHands, {"asked": thing}, capped, thing, [])

    def test_a_later_change_of_what_was_handed_in_is_no_matter(self):
        goods, prices = {"ann": ["x"], "bob": ["y"]}, {"x": 1, "y": 2}
        told = covering(TWO, goods, prices)
        goods["ann"].append("y")
        prices["y"] = 50
        self.assertEqual([told.worth(some) for some in [("ann",), ("bob",), TWO]], [1, 2, 3])

    def test_by_names(self):
        self.assertEqual(plus(other=WORTHS, one=WORTHS).worth(TWO), 10)
        told = covering(prices={"x": 3}, goods={"ann": ["x"], "bob": []}, hands=TWO)
        self.assertEqual(told.worth(as_set(TWO)), 3)
        self.assertEqual(capped(rows=[(TWO, 1)], hands=TWO).worth(TWO), 1)


if __name__ == "__main__":
    unittest.main()
