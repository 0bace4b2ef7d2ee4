"""[28] Payments that orders pay, what they use up, and bars; [2] of them."""

import unittest
from itertools import permutations

from aheadbook.errors import NotFalling, NotPaid
from aheadbook.falling import rise
from aheadbook.payments import is_bar, paid, used
from aheadbook.worths import Worths, capped, gains
from tests.things import (
    NAMES,
    NO_SETS,
    NOTHINGS,
    Refusing,
    as_set,
    bound_in,
    falling_tables,
    gains_by_words,
    keeping,
    of_set,
    other_tables,
    picked,
    sets_of,
)

THREE = NAMES[:3]
FOUR = NAMES[:4]
# Each alone is worth 2, two or three 3: used up are nobody, ann, ann and bob, all.
WORTHS = Worths(THREE, {some: min(3, 2 * len(some)) for some in sets_of(THREE)})
PAY = {"ann": 2, "bob": 1, "cay": 0}


def bars_by_words(hands, table, pay, sort):
    """All bars of a sort, the first of it first."""
    up = [some for some in sets_of(hands) if of_set(pay, some) == table[some]]
    if sort == "all":
        return [("all",)] if of_set(pay, hands) != table[as_set(hands)] else []
    if sort == "more":
        return [("more", some) for some in sets_of(hands) if of_set(pay, some) > table[some]]
    following = {some: [other for other in up if len(other) == len(some) + 1 and set(some) < set(other)] for some in up}
    return [("stuck", some) for some in up if some != as_set(hands) and not following[some]]


def first_bar(hands, table, pay, sorts=("all", "more", "stuck")):
    """The first bar of these sorts, or None."""
    bars = [bar for sort in sorts for bar in bars_by_words(hands, table, pay, sort)]
    return bars[0] if bars else None


def some_payments(hands, table, many):
    """Payments by rows, by halves of two rows, and others near by."""
    rows = list(permutations(hands))
    for k in range(many):
        one = gains_by_words(table, rows[picked(("one", k), len(rows))])
        other = gains_by_words(table, rows[picked(("other", k), len(rows))])
        yield one
        yield {hand: (one[hand] + other[hand]) // 2 for hand in hands}
        hand, another = hands[picked(("hand", k), len(hands))], hands[picked(("another", k), len(hands))]
        yield {**one, hand: one[hand] + 1}
        yield {**other, hand: other[hand] - 1}
        moved = {**one, hand: one[hand] + 1}
        moved[another] -= 1
        yield moved
        moved = {**one, hand: other[hand]}
        moved[another] += of_set(one, hands) - of_set(moved, hands)
        yield moved


def all_payments(most):
    """Hands, tables of falling worths, and payments."""
    for many in range(1, most + 1):
        hands = NAMES[:many]
        for table in falling_tables(hands, 8):
            for pay in some_payments(hands, table, 4):
                yield hands, table, pay


class UsedTest(unittest.TestCase):
    def test_just_the_sets_that_are_used_up(self):
        for hands, table, pay in all_payments(5):
            told = used(Worths(hands, table), pay)
            self.assertEqual(told, [some for some in sets_of(hands) if of_set(pay, some) == table[some]])
            self.assertEqual(told[0], ())

    def test_of_worths_that_rise_too(self):
        for table in other_tables(FOUR, 10):
            for k in range(10):
                pay = {hand: picked((k, hand), 5) - 2 for hand in FOUR}
                wanted = [some for some in sets_of(FOUR) if of_set(pay, some) == table[some]]
                self.assertEqual(used(Worths(FOUR, table), pay), wanted)

    def test_of_three_hands(self):
        self.assertEqual(used(WORTHS, PAY), [(), ("ann",), ("ann", "bob"), THREE])

    def test_a_told_list_is_the_askers_own(self):
        pay = dict(PAY)
        told = used(WORTHS, pay)
        told.clear()
        self.assertEqual(len(used(WORTHS, pay)), 4)
        self.assertEqual(pay, PAY)

    def test_by_names(self):
        self.assertEqual(used(pay=PAY, worths=WORTHS)[1], ("ann",))


class PaidTest(unittest.TestCase, Refusing):
    def test_by_going_through_rows(self):
        bars = set()
        for hands, table, pay in all_payments(5):
            worths = Worths(hands, table)
            rows = [row for row in permutations(hands) if gains_by_words(table, row) == pay]
            bar = first_bar(hands, table, pay)
            self.assertEqual(bar is None, bool(rows))
            if rows:
                told = paid(worths, pay)
                self.assertIs(told.__class__, tuple)
                self.assertEqual(told, tuple(bound_in(rows)))
                self.assertEqual(keeping(hands, told), sorted(rows))
            else:
                bars.add(bar[0])
                self.refused(NotPaid, {"bar": bar}, paid, worths, pay)
        self.assertEqual(bars, {"all", "more", "stuck"})

    def test_each_bar(self):
        self.assertEqual(paid(WORTHS, PAY), (("ann", "bob"), ("ann", "cay"), ("bob", "cay")))
        for pay, bar in [
            ({"ann": 2, "bob": 1, "cay": -1}, ("all",)),
            ({"ann": 2, "bob": 1, "cay": 1}, ("all",)),
            ({"ann": 3, "bob": 3, "cay": 3}, ("all",)),
            ({"ann": 3, "bob": 3, "cay": -3}, ("more", ("ann",))),
            ({"ann": 0, "bob": 4, "cay": -1}, ("more", ("ann", "bob"))),
            ({"ann": 0, "bob": 0, "cay": 3}, ("more", ("cay",))),
            ({"ann": 1, "bob": 1, "cay": 1}, ("stuck", ())),
        ]:
            self.refused(NotPaid, {"bar": bar}, paid, WORTHS, pay)
        # Ann is used up; bob and cay each get half of what they have together.
        table = {some: 5 * ("ann" in some) + 2 * bool(set(some) - {"ann"}) for some in sets_of(THREE)}
        self.refused(NotPaid, {"bar": ("stuck", ("ann",))}, paid, Worths(THREE, table), {"ann": 5, "bob": 1, "cay": 1})

    def test_a_row_whose_gains_others_have_too(self):
        free = Worths(FOUR, {some: 2 * len(some) for some in sets_of(FOUR)})
        self.assertEqual(paid(free, {hand: 2 for hand in FOUR}), ())
        one = Worths(["ann"], {(): 0, ("ann",): -4})
        self.assertEqual(paid(one, {"ann": -4}), ())
        self.refused(NotPaid, {"bar": ("all",)}, paid, one, {"ann": -5})

    def test_of_eight_hands(self):
        for table in falling_tables(NAMES, 4):
            worths = Worths(NAMES, table)
            for row in [NAMES, NAMES[::-1], NAMES[4:] + NAMES[:4]]:
                pay = gains(worths, row)
                web = paid(worths, pay)
                self.assertTrue(all(row.index(a) < row.index(b) for a, b in web))
                bar = first_bar(NAMES, table, {**pay, "gus": pay["gus"] + 1, "bob": pay["bob"] - 1})
                if bar:
                    moved = {**pay, "gus": pay["gus"] + 1, "bob": pay["bob"] - 1}
                    self.refused(NotPaid, {"bar": bar}, paid, worths, moved)

    def test_not_falling_goes_first(self):
        for table in other_tables(FOUR, 12):
            worths = Worths(FOUR, table)
            let = rise(worths)
            self.assertIsNotNone(let)
            for row in [FOUR, FOUR[::-1]]:
                self.refused(NotFalling, {"let": let}, paid, worths, gains(worths, row))
            self.refused(NotFalling, {"let": let}, paid, worths, {hand: 100 for hand in FOUR})

    def test_what_is_handed_in_stays(self):
        pay = dict(PAY)
        paid(WORTHS, pay)
        self.assertEqual(pay, PAY)

    def test_by_names(self):
        self.assertEqual(len(paid(pay=PAY, worths=WORTHS)), 3)


class IsBarTest(unittest.TestCase):
    def check(self, hands, table, pay):
        worths = Worths(hands, table)
        found = set()
        bars = [bar for sort in ("all", "more", "stuck") for bar in bars_by_words(hands, table, pay, sort)]
        for thing in [("all",)] + [(word, some) for word in ("more", "stuck") for some in sets_of(hands)]:
            self.assertIs(is_bar(worths, pay, thing), thing in bars)
            found.update([thing[0]] if thing in bars else [])
        return found

    def test_of_each_sort_and_of_any_set_of_which_it_is_so(self):
        found = set()
        for hands, table, pay in all_payments(4):
            found |= self.check(hands, table, pay)
        self.assertEqual(found, {"all", "more", "stuck"})

    def test_of_worths_that_are_not_falling(self):
        found = set()
        for table in other_tables(FOUR, 10):
            for k in range(8):
                found |= self.check(FOUR, table, {hand: picked((k, hand), 5) - 2 for hand in FOUR})
            found |= self.check(FOUR, table, gains_by_words(table, FOUR))
        self.assertEqual(found, {"all", "more", "stuck"})

    def test_with_one_thing_otherwise(self):
        worths, pay = WORTHS, {"ann": 3, "bob": 3, "cay": 1}
        self.assertIs(is_bar(worths, pay, ("all",)), True)
        self.assertIs(is_bar(worths, pay, ("more", ("ann", "bob"))), True)
        self.assertIs(is_bar(worths, pay, ("stuck", ())), True)
        for thing in [
            (),
            ["all"],
            "all",
            ("all", ()),
            ("all", THREE),
            ("all", None),
            ("any",),
            (None,),
            (["all"],),
            (("all",),),
            ["more", ("ann", "bob")],
            ("more",),
            ("stuck",),
            ("more", ["ann", "bob"]),
            ("more", ("bob", "ann")),
            ("more", ("ann", "bob"), ()),
            ("more", ("cay",)),
            ("more", ()),
            ("less", ("ann", "bob")),
            (["more"], ("ann", "bob")),
            ("more", "ann"),
            ("stuck", []),
            ("stuck", None),
            ("stuck", THREE),
            ("stuck", ("ann",)),
            (("ann", "bob"), "more"),
            {"more": ("ann", "bob")},
        ]:
            with self.subTest(thing=thing):
                self.assertIs(is_bar(worths, pay, thing), False)

    def test_of_anything(self):
        worths = Worths(FOUR, {some: len(some) for some in sets_of(FOUR)})
        for thing in NOTHINGS:
            self.assertIs(is_bar(worths, {hand: 2 for hand in FOUR}, thing), False)
        for thing in NO_SETS:
            self.assertIs(is_bar(worths, {hand: 2 for hand in FOUR}, ("more", thing)), False)
            self.assertIs(is_bar(worths, {hand: 0 for hand in FOUR}, ("stuck", thing)), False)

    def test_by_names(self):
        self.assertIs(is_bar(thing=("all",), pay=PAY, worths=WORTHS), False)
        self.assertIs(is_bar(thing=("all",), pay=PAY, worths=capped(THREE, [])), True)


if __name__ == "__main__":
    unittest.main()
