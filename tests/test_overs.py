"""[6] Shortest ways from a row to another one; [2] of them."""

import unittest
from itertools import permutations

from aheadbook.errors import NoNumber, NoRow
from aheadbook.overs import count_over, is_between, over, over_at
from tests.things import NAMES, NOTHINGS, Refusing

NO_NUMBERS = NOTHINGS + [-2, (), (0,), [0], {0: 0}]


def far(one, other):
    """How far two rows are, by counting."""
    return sum(
        other.index(one[k]) < other.index(one[j]) for j in range(len(one)) for k in range(j + 1, len(one))
    )


def behind(row, place):
    hands = list(row)
    hands[place], hands[place + 1] = hands[place + 1], hands[place]
    return tuple(hands)


def led(row, way):
    for place in way:
        row = behind(row, place)
    return row


def all_ways(one, other):
    """All shortest ways, in the order of tuples, by trying each place."""
    if one == other:
        return [()]
    return [
        (place, *rest)
        for place in range(len(one) - 1)
        if far(behind(one, place), other) < far(one, other)
        for rest in all_ways(behind(one, place), other)
    ]


def rows_of(many):
    return list(permutations(NAMES[:many]))


class OverTest(unittest.TestCase, Refusing):
    def check(self, one, other):
        way = over(one, other)
        self.assertIs(way.__class__, tuple)
        self.assertEqual(len(way), far(one, other))
        self.assertEqual(led(one, way), other)

    def test_every_two_rows_of_up_to_four(self):
        for many in range(1, 5):
            for one in rows_of(many):
                for other in rows_of(many):
                    self.check(one, other)

    def test_eight_hands(self):
        self.check(NAMES, tuple(reversed(NAMES)))
        self.check(NAMES[1::2] + NAMES[::2], NAMES)
        self.check(NAMES[4:] + NAMES[:4], NAMES[:4] + tuple(reversed(NAMES[4:])))

    def test_the_empty_way(self):
        for many in range(1, 9):
            self.assertEqual(over(NAMES[:many], NAMES[:many]), ())

    def test_refuses_what_is_no_row(self):
        row = ("ann", "bob")
        for thing in NOTHINGS + [(), ["ann", "bob"], ("ann", "ann"), ("ann", "Bob"), ("ann", "bob", "bob")]:
            with self.subTest(thing=thing):
                self.refused(NoRow, {"asked": thing}, over, thing, row)
                self.refused(NoRow, {"asked": thing}, over, row, thing)
                self.refused(NoRow, {"asked": thing}, over, thing, ())
        self.refused(NoRow, {"asked": ("ann", "cay")}, over, row, ("ann", "cay"))
        self.refused(NoRow, {"asked": ("ann",)}, over, row, ("ann",))

    def test_by_names(self):
        self.assertEqual(over(other=("ann", "bob"), one=("bob", "ann")), (0,))


class IsBetweenTest(unittest.TestCase, Refusing):
    def test_every_three_rows_of_up_to_three(self):
        for many in range(1, 4):
            for one in rows_of(many):
                for other in rows_of(many):
                    for row in rows_of(many):
                        wanted = far(one, row) + far(row, other) == far(one, other)
                        self.assertIs(is_between(one, other, row), wanted)

    def test_both_ends_and_each_row_of_a_way(self):
        for one, other in [
            (NAMES, tuple(reversed(NAMES))),
            (NAMES[4:] + NAMES[:4], NAMES),
            (NAMES[:5], NAMES[3:5] + NAMES[:3]),
        ]:
            way = over(one, other)
            for many in range(len(way) + 1):
                self.assertIs(is_between(one, other, led(one, way[:many])), True)

    def test_rows_beside(self):
        self.assertIs(is_between(("ann", "bob", "cay"), ("bob", "ann", "cay"), ("ann", "cay", "bob")), False)
        self.assertIs(is_between(("ann", "bob", "cay"), ("bob", "ann", "cay"), ("cay", "bob", "ann")), False)
        self.assertIs(is_between(NAMES, NAMES, behind(NAMES, 0)), False)
        self.assertIs(is_between(NAMES, behind(NAMES, 6), behind(NAMES, 0)), False)

    def test_refuses_the_first_that_is_no_row(self):
        row = ("ann", "bob")
        for thing in NOTHINGS + [(), ["ann", "bob"], ("ann", "ann")]:
            with self.subTest(thing=thing):
                self.refused(NoRow, {"asked": thing}, is_between, thing, (), [])
                self.refused(NoRow, {"asked": thing}, is_between, row, thing, [row])
                self.refused(NoRow, {"asked": thing}, is_between, row, row, thing)
        for other in [("ann", "cay"), ("ann",), ("ann", "bob", "cay")]:
            self.refused(NoRow, {"asked": other}, is_between, row, other, row)
            self.refused(NoRow, {"asked": other}, is_between, row, row, other)
            self.refused(NoRow, {"asked": row}, is_between, other, row, other)

    def test_by_names(self):
        one, other = ("ann", "bob"), ("bob", "ann")
        self.assertIs(is_between(row=other, other=one, one=one), False)


class CountTest(unittest.TestCase, Refusing):
    def test_every_two_rows_of_up_to_four(self):
        for many in range(1, 5):
            for one in rows_of(many):
                for other in rows_of(many):
                    ways = all_ways(one, other)
                    self.assertEqual(count_over(one, other), len(ways))
                    self.assertEqual([over_at(one, other, k) for k in range(len(ways))], ways)

    def test_from_behind(self):
        counts = [count_over(NAMES[:many], tuple(reversed(NAMES[:many]))) for many in range(1, 7)]
        self.assertEqual(counts, [1, 1, 2, 16, 768, 292864])

    def test_ways_of_five_hands(self):
        for one, other in [
            (NAMES[:5], tuple(reversed(NAMES[:5]))),
            (("dan", "ann", "eve", "bob", "cay"), ("bob", "eve", "cay", "dan", "ann")),
        ]:
            ways = all_ways(one, other)
            self.assertEqual(count_over(one, other), len(ways))
            self.assertEqual([over_at(one, other, k) for k in range(len(ways))], ways)

    def test_first_and_last_of_six_hands(self):
        one, other = NAMES[:6], tuple(reversed(NAMES[:6]))
        first = (0, 1, 0, 2, 1, 0, 3, 2, 1, 0, 4, 3, 2, 1, 0)
        self.assertEqual(over_at(one, other, 0), first)
        self.assertEqual(over_at(one, other, 292863), (4, 3, 4, 2, 3, 4, 1, 2, 3, 4, 0, 1, 2, 3, 4))
        told = [over_at(one, other, number) for number in range(100000, 100050)]
        self.assertEqual(told, sorted(told))
        self.assertEqual(len({way for way in told}), 50)
        for way in told:
            self.assertEqual(led(one, way), other)

    def test_the_only_way_of_a_row_to_itself(self):
        for many in range(1, 7):
            row = NAMES[:many]
            self.assertEqual(count_over(row, row), 1)
            self.assertEqual(over_at(row, row, 0), ())
            self.refused(NoNumber, {"asked": 1}, over_at, row, row, 1)

    def test_refuses_what_is_no_number_of_a_way(self):
        for many in range(1, 7):
            one, other = NAMES[:many], tuple(reversed(NAMES[:many]))
            count = count_over(one, other)
            for number in NO_NUMBERS + [count, count + 1, -count]:
                with self.subTest(many=many, number=number):
                    self.refused(NoNumber, {"asked": number}, over_at, one, other, number)

    def test_refuses_what_is_no_row_first(self):
        row = ("ann", "bob")
        for thing in NOTHINGS + [(), ["ann", "bob"], ("ann", "ann"), ("Ann", "bob")]:
            with self.subTest(thing=thing):
                self.refused(NoRow, {"asked": thing}, count_over, thing, row)
                self.refused(NoRow, {"asked": thing}, count_over, row, thing)
                for number in (0, -1, None):
                    self.refused(NoRow, {"asked": thing}, over_at, thing, (), number)
                    self.refused(NoRow, {"asked": thing}, over_at, row, thing, number)
        for other in [("ann", "cay"), ("ann",), ("ann", "bob", "cay")]:
            self.refused(NoRow, {"asked": other}, count_over, row, other)
            self.refused(NoRow, {"asked": other}, over_at, row, other, None)

    def test_by_names(self):
        one, other = ("ann", "bob"), ("bob", "ann")
        self.assertEqual(count_over(other=other, one=one), 1)
        self.assertEqual(over_at(number=0, other=other, one=one), (0,))


if __name__ == "__main__":
    unittest.main()
