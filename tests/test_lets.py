"""[7] Lets; [2] of them."""

import unittest

from aheadbook.errors import NoHands
from aheadbook.lets import every_let, is_let
from tests.things import NAMES, NO_HANDS, NO_LETS, Refusing, lets_of

FOUR = ["dan", "ann", "cay", "bob"]


class EveryLetTest(unittest.TestCase, Refusing):
    def test_of_three_hands(self):
        self.assertEqual(
            every_let(["cay", "ann", "bob"]),
            [
                ("ann", "bob", ()),
                ("ann", "bob", ("cay",)),
                ("ann", "cay", ()),
                ("ann", "cay", ("bob",)),
                ("bob", "cay", ()),
                ("bob", "cay", ("ann",)),
            ],
        )

    def test_of_one_to_eight_hands(self):
        for many in range(1, 9):
            hands = NAMES[:many]
            wanted = lets_of(hands)
            self.assertEqual(len(wanted), many * (many - 1) * 2 ** many // 8)
            for told in [every_let(hands), every_let(list(reversed(hands))), every_let(hands[1::2] + hands[::2])]:
                self.assertIs(told.__class__, list)
                self.assertEqual(told, wanted)

    def test_refuses_what_are_no_hands(self):
        for thing in NO_HANDS:
            with self.subTest(thing=thing):
                self.refused(NoHands, {"asked": thing}, every_let, thing)

    def test_a_told_list_is_the_askers_own(self):
        hands = ["bob", "ann"]
        told = every_let(hands)
        told.append("more")
        told[0] = None
        self.assertEqual(every_let(hands), [("ann", "bob", ())])
        self.assertEqual(hands, ["bob", "ann"])

    def test_by_names(self):
        self.assertEqual(every_let(hands=("ann",)), [])


class IsLetTest(unittest.TestCase):
    def test_every_let_is_one(self):
        for many in range(1, 9):
            hands = list(reversed(NAMES[:many]))
            for let in lets_of(hands):
                self.assertIs(is_let(hands, let), True)

    def test_the_lets_of_other_hands_are_none(self):
        for let in lets_of(NAMES[:5]):
            wanted = "eve" not in let and "eve" not in let[2]
            self.assertIs(is_let(FOUR, let), wanted)

    def test_anything_else_is_none(self):
        for thing in NO_LETS:
            with self.subTest(thing=thing):
                self.assertIs(is_let(FOUR, thing), False)
                self.assertIs(is_let(tuple(FOUR), thing), False)

    def test_a_text_is_no_set_of_its_letters(self):
        self.assertIs(is_let(["a", "b", "c"], ("a", "b", ("c",))), True)
        self.assertIs(is_let(["a", "b", "c"], ("a", "b", "c")), False)
        self.assertIs(is_let(["a", "b", "c"], "abc"), False)
        self.assertIs(is_let(["a", "b"], ("a", "b", "")), False)

    def test_one_hand_has_no_let(self):
        self.assertIs(is_let(("ann",), ("ann", "ann", ())), False)
        self.assertIs(is_let(("ann",), ("ann", "bob", ())), False)

    def test_by_names(self):
        self.assertIs(is_let(thing=("ann", "bob", ("cay", "dan")), hands=FOUR), True)


if __name__ == "__main__":
    unittest.main()
