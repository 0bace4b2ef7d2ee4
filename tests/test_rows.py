"""[5] Rows, what stands otherwise in two, and changes; [2] of them."""

import unittest
from itertools import permutations

from aheadbook.errors import NoPlace, NoRow
from aheadbook.rows import changed, is_row, let_at, turned
from tests.things import NAMES, NOTHINGS, Refusing

NO_ROWS = NOTHINGS + [
    (),
    [],
    ["ann", "bob"],
    ("ann", "ann"),
    ("ann", "bob", "ann"),
    ("ann", "Bob"),
    ("ann", "bob2"),
    ("ann", "bo b"),
    ("ann", "bob\n"),
    ("ann", ""),
    ("ann", "ninesigns"),
    ("ann", "`"),
    ("ann", "{"),
    ("ann", 1),
    ("ann", True),
    ("ann", ("bob",)),
    ("ann", ["bob"]),
    ("ann", {"bob": "bob"}),
    {"ann": 0, "bob": 1},
]


def other_way(row):
    return tuple(reversed(row))


class IsRowTest(unittest.TestCase):
    def test_every_order_of_the_hands_is_a_row(self):
        for many in range(1, 6):
            hands = NAMES[:many]
            for row in permutations(hands):
                self.assertIs(is_row(hands, row), True)
                self.assertIs(is_row(list(reversed(hands)), row), True)

    def test_eight_hands(self):
        self.assertIs(is_row(NAMES, other_way(NAMES)), True)
        self.assertIs(is_row(NAMES, NAMES[:7]), False)
        self.assertIs(is_row(NAMES, NAMES[:7] + ("zoe",)), False)

    def test_names_of_one_and_of_eight_letters(self):
        self.assertIs(is_row(["a", "zzzzzzzz"], ("zzzzzzzz", "a")), True)

    def test_other_hands_make_no_row(self):
        hands = ["cay", "ann", "bob"]
        for thing in [
            ("ann", "bob"),
            ("ann", "bob", "bob"),
            ("ann", "bob", "dan"),
            ("ann", "bob", "cay", "dan"),
            ("ann", "bob", "cay", "cay"),
            ("ann", "bob", "Cay"),
            (),
        ]:
            with self.subTest(thing=thing):
                self.assertIs(is_row(hands, thing), False)

    def test_things_of_another_kind_make_no_row(self):
        hands = ("ann", "bob", "cay")
        for thing in NOTHINGS + [
            ["ann", "bob", "cay"],
            "ann bob cay",
            "abc",
            {"ann": 0, "bob": 1, "cay": 2},
            (("ann", "bob", "cay"),),
            ("ann", "bob", ("cay",)),
            ("ann", "bob", ["cay"]),
            ("ann", "bob", {"cay": 1}),
            ("ann", "bob", None),
            ("ann", "bob", True),
            (0, 1, 2),
        ]:
            with self.subTest(thing=thing):
                self.assertIs(is_row(hands, thing), False)
        self.assertIs(is_row(("a", "b"), "ab"), False)
        self.assertIs(is_row(("a", "b"), ["a", "b"]), False)
        self.assertIs(is_row(("a",), "a"), False)

    def test_by_names(self):
        self.assertIs(is_row(thing=("bob", "ann"), hands=["ann", "bob"]), True)


class TurnedTest(unittest.TestCase, Refusing):
    def test_just_the_pairs_that_stand_otherwise(self):
        self.assertEqual(turned(("ann", "bob", "cay"), ("cay", "ann", "bob")), [("ann", "cay"), ("bob", "cay")])
        self.assertEqual(turned(("cay", "ann", "bob"), ("ann", "bob", "cay")), [("cay", "ann"), ("cay", "bob")])
        self.assertEqual(turned(("bob", "ann"), ("ann", "bob")), [("bob", "ann")])

    def test_every_two_rows_of_four(self):
        rows = list(permutations(NAMES[:4]))
        for one in rows:
            for other in rows:
                told = turned(one, other)
                wanted = [
                    (a, b)
                    for a in NAMES
                    for b in NAMES
                    if a in one and b in one and one.index(a) < one.index(b) and other.index(b) < other.index(a)
                ]
                self.assertIs(told.__class__, list)
                self.assertEqual(told, wanted)

    def test_rising_where_the_first_row_does_not_rise(self):
        told = turned(("dan", "bob", "ann", "cay"), ("cay", "ann", "bob", "dan"))
        self.assertEqual(
            told,
            [("ann", "cay"), ("bob", "ann"), ("bob", "cay"), ("dan", "ann"), ("dan", "bob"), ("dan", "cay")],
        )

    def test_none_of_a_row_and_itself_all_from_behind(self):
        for many in range(1, 9):
            row = NAMES[:many]
            self.assertEqual(turned(row, row), [])
            self.assertEqual(len(turned(row, other_way(row))), many * (many - 1) // 2)

    def test_refuses_the_first_that_is_no_row(self):
        row = ("ann", "bob")
        for thing in NO_ROWS:
            with self.subTest(thing=thing):
                self.refused(NoRow, {"asked": thing}, turned, thing, row)
                self.refused(NoRow, {"asked": thing}, turned, row, thing)
                self.refused(NoRow, {"asked": thing}, turned, thing, "neither")

    def test_refuses_a_row_of_other_hands(self):
        row = ("ann", "bob")
        for other in [("ann", "cay"), ("ann",), ("ann", "bob", "cay")]:
            self.refused(NoRow, {"asked": other}, turned, row, other)
            self.refused(NoRow, {"asked": row}, turned, other, row)

    def test_a_told_list_is_the_askers_own(self):
        one, other = ("ann", "bob"), ("bob", "ann")
        told = turned(one, other)
        told.append("more")
        told[0] = None
        self.assertEqual(turned(one, other), [("ann", "bob")])

    def test_by_names(self):
        self.assertEqual(turned(other=("bob", "ann"), one=("ann", "bob")), [("ann", "bob")])


class ChangeTest(unittest.TestCase, Refusing):
    def rows(self):
        for many in range(1, 9):
            hands = NAMES[:many]
            yield hands
            yield other_way(hands)
            yield hands[1::2] + hands[::2]
            yield other_way(hands[::2]) + hands[1::2]

    def test_at_each_place(self):
        for row in self.rows():
            for place in range(len(row) - 1):
                with self.subTest(row=row, place=place):
                    there, following = row[place], row[place + 1]
                    wanted = list(row)
                    wanted[place], wanted[place + 1] = following, there
                    self.assertEqual(changed(row, place), tuple(wanted))
                    ahead = tuple(sorted(row[:place]))
                    self.assertEqual(let_at(row, place), (min(there, following), max(there, following), ahead))

    def test_told_in_tuples(self):
        self.assertEqual(repr(changed(("bob", "ann"), 0)), "('ann', 'bob')")
        self.assertEqual(repr(let_at(("bob", "ann"), 0)), "('ann', 'bob', ())")
        self.assertEqual(repr(let_at(("dan", "bob", "cay", "ann"), 2)), "('ann', 'cay', ('bob', 'dan'))")

    def test_refuses_what_is_no_place(self):
        for row in self.rows():
            for place in NOTHINGS + [(), [], (0,), [0], {0: 0}, len(row) - 1, len(row), -1, -len(row)]:
                with self.subTest(row=row, place=place):
                    self.refused(NoPlace, {"asked": place}, changed, row, place)
                    self.refused(NoPlace, {"asked": place}, let_at, row, place)

    def test_refuses_what_is_no_row_ahead_of_the_place(self):
        for thing in NO_ROWS:
            for place in (0, None, -1):
                with self.subTest(thing=thing, place=place):
                    self.refused(NoRow, {"asked": thing}, changed, thing, place)
                    self.refused(NoRow, {"asked": thing}, let_at, thing, place)

    def test_by_names(self):
        self.assertEqual(changed(place=0, row=("ann", "bob")), ("bob", "ann"))
        self.assertEqual(let_at(place=0, row=("bob", "ann")), ("ann", "bob", ()))


if __name__ == "__main__":
    unittest.main()
