"""[15] Webs, closed pairs, rows that keep a web, ties; [2] of them."""

import unittest
from itertools import permutations

from aheadbook.errors import Knot, NoWeb
from aheadbook.webs import closed, is_web, keeps, ties
from tests.things import NAMES, NO_WEBS, Refusing, following, keeping, pair_sets, webs_of

FOUR = ["dan", "ann", "cay", "bob"]
CHAIN = tuple((NAMES[j], NAMES[k]) for j in range(8) for k in range(j + 1, 8))


class IsWebTest(unittest.TestCase):
    def test_just_the_webs_among_all_sets_of_pairs(self):
        for many, count in [(1, 1), (2, 3), (3, 19), (4, 219)]:
            hands = list(reversed(NAMES[:many]))
            webs = webs_of(hands)
            self.assertEqual(len(webs), count)
            known = set(webs)
            for pairs in pair_sets(hands):
                self.assertIs(is_web(hands, pairs), pairs in known)

    def test_the_empty_web_and_a_chain_of_eight(self):
        self.assertIs(is_web(["ann"], ()), True)
        self.assertIs(is_web(NAMES, ()), True)
        self.assertIs(is_web(list(NAMES), CHAIN), True)
        for k in range(len(CHAIN)):
            a, b = CHAIN[k]
            wanted = NAMES.index(b) == NAMES.index(a) + 1
            self.assertIs(is_web(NAMES, CHAIN[:k] + CHAIN[k + 1:]), wanted)

    def test_another_order_or_a_pair_twice(self):
        web = (("ann", "bob"), ("ann", "cay"), ("bob", "cay"))
        self.assertIs(is_web(FOUR, web), True)
        for other in permutations(web):
            self.assertIs(is_web(FOUR, other), other == web)
        self.assertIs(is_web(FOUR, web + web[-1:]), False)
        self.assertIs(is_web(FOUR, web[:1] + web), False)

    def test_anything_else_is_none(self):
        for thing in NO_WEBS:
            with self.subTest(thing=thing):
                self.assertIs(is_web(FOUR, thing), False)
                self.assertIs(is_web(tuple(FOUR), thing), False)

    def test_a_text_is_no_pair_of_its_letters(self):
        self.assertIs(is_web(["a", "b"], (("a", "b"),)), True)
        self.assertIs(is_web(["a", "b"], ("ab",)), False)
        self.assertIs(is_web(["a", "b"], ""), False)

    def test_by_names(self):
        self.assertIs(is_web(thing=(("bob", "ann"),), hands=FOUR), True)


class ClosedTest(unittest.TestCase):
    def check_knot(self, hands, pairs):
        with self.assertRaises(Knot) as caught:
            closed(hands, pairs)
        circle = caught.exception.circle
        self.assertIs(caught.exception.__class__, Knot)
        self.assertIs(circle.__class__, tuple)
        self.assertGreaterEqual(len(circle), 2)
        self.assertEqual(len(set(circle)), len(circle))
        for k in range(len(circle)):
            self.assertIn((circle[k - 1], circle[k]), pairs)

    def test_all_sets_of_pairs_of_up_to_four_hands(self):
        for many in range(1, 5):
            hands = list(reversed(NAMES[:many]))
            for pairs in pair_sets(hands):
                if keeping(hands, pairs):
                    told = closed(hands, pairs)
                    self.assertEqual(told, following(hands, pairs))
                    self.assertIs(told.__class__, tuple)
                else:
                    self.check_knot(hands, pairs)

    def test_pairs_in_any_order_some_twice(self):
        wanted = (("ann", "bob"), ("ann", "cay"), ("bob", "cay"))
        for pairs in [
            [("bob", "cay"), ("ann", "bob")],
            (("bob", "cay"), ("ann", "bob"), ("bob", "cay")),
            [("ann", "cay"), ("bob", "cay"), ("ann", "bob"), ("ann", "bob")],
        ]:
            self.assertEqual(closed(FOUR, pairs), wanted)
            self.assertEqual(closed(tuple(sorted(FOUR)), pairs), wanted)

    def test_no_pairs(self):
        self.assertEqual(closed(["ann"], []), ())
        self.assertEqual(closed(FOUR, ()), ())

    def test_long_chains_of_eight(self):
        for order in [(0, 1, 2, 3, 4, 5, 6), (6, 5, 4, 3, 2, 1, 0), (3, 1, 5, 0, 6, 2, 4)]:
            for hands in [NAMES, tuple(reversed(NAMES)), NAMES[4:] + NAMES[:4], NAMES[1::2] + NAMES[::2]]:
                pairs = [(hands[k], hands[k + 1]) for k in order]
                wanted = sorted((hands[j], hands[k]) for j in range(8) for k in range(j + 1, 8))
                self.assertEqual(closed(NAMES, pairs), tuple(wanted))

    def test_long_circles(self):
        for many in range(2, 9):
            circle = NAMES[8 - many:]
            pairs = [(circle[k - 1], circle[k]) for k in range(many)]
            self.check_knot(NAMES, pairs)
            self.check_knot(list(reversed(NAMES)), list(reversed(pairs)) + pairs[:2])
            self.check_knot(NAMES, tuple(pairs + [("ann", hand) for hand in NAMES[1:7]]))
            self.check_knot(NAMES, pairs + [(hand, "hal") for hand in NAMES[:-1]])

    def test_what_is_handed_in_stays(self):
        hands, pairs = ["cay", "bob", "ann"], [("bob", "cay"), ("ann", "bob"), ("bob", "cay")]
        closed(hands, pairs)
        self.assertEqual((hands, pairs), (["cay", "bob", "ann"], [("bob", "cay"), ("ann", "bob"), ("bob", "cay")]))

    def test_by_names(self):
        self.assertEqual(closed(pairs=[("bob", "ann")], hands=FOUR), (("bob", "ann"),))


class KeepsTest(unittest.TestCase, Refusing):
    def test_every_web_and_row_of_up_to_four(self):
        for many in range(1, 5):
            for web in webs_of(NAMES[:many]):
                kept = keeping(NAMES[:many], web)
                for row in permutations(NAMES[:many]):
                    self.assertIs(keeps(web, row), row in kept)

    def test_eight_hands(self):
        self.assertIs(keeps(CHAIN, NAMES), True)
        self.assertIs(keeps(CHAIN, NAMES[:6] + ("hal", "gus")), False)
        self.assertIs(keeps((), NAMES), True)

    def test_refuses_what_is_no_web(self):
        for thing in NO_WEBS:
            with self.subTest(thing=thing):
                self.refused(NoWeb, {"asked": thing}, keeps, thing, tuple(FOUR))

    def test_the_hands_are_the_rows(self):
        web = (("ann", "dan"),)
        self.assertIs(keeps(web, ("ann", "dan")), True)
        self.refused(NoWeb, {"asked": web}, keeps, web, ("bob", "ann", "cay"))

    def test_by_names(self):
        self.assertIs(keeps(row=("ann", "bob"), web=(("ann", "bob"),)), True)


class TiesTest(unittest.TestCase, Refusing):
    def test_just_those_with_no_hand_between(self):
        web = (("ann", "bob"), ("ann", "cay"), ("ann", "dan"), ("bob", "dan"), ("cay", "dan"))
        wanted = [("ann", "bob"), ("ann", "cay"), ("bob", "dan"), ("cay", "dan")]
        self.assertEqual(ties(FOUR, web), wanted)
        self.assertEqual(ties(["ann"], ()), [])
        self.assertEqual(ties(list(reversed(NAMES)), CHAIN), [(NAMES[k], NAMES[k + 1]) for k in range(7)])

    def test_every_web_of_up_to_four(self):
        for many in range(1, 5):
            webs = set(webs_of(NAMES[:many]))
            for web in sorted(webs):
                told = ties(list(reversed(NAMES[:many])), web)
                self.assertIs(told.__class__, list)
                # A pair that others make stays when it is taken out: what is left is no web.
                wanted = [pair for pair in web if tuple(other for other in web if other != pair) in webs]
                self.assertEqual(told, wanted)

    def test_refuses_what_is_no_web(self):
        for thing in NO_WEBS:
            with self.subTest(thing=thing):
                self.refused(NoWeb, {"asked": thing}, ties, FOUR, thing)

    def test_a_told_list_is_the_askers_own(self):
        web = (("ann", "bob"),)
        told = ties(FOUR, web)
        told.append("more")
        told[0] = None
        self.assertEqual(ties(FOUR, web), [("ann", "bob")])

    def test_by_names(self):
        self.assertEqual(ties(web=(("ann", "bob"),), hands=FOUR), [("ann", "bob")])


if __name__ == "__main__":
    unittest.main()
