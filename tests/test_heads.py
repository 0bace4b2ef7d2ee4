"""[16] Heads of a web, and what can come next; [2] of them."""

import unittest

from aheadbook.errors import NoHead, NoWeb
from aheadbook.heads import heads, nexts
from tests.things import NAMES, NO_WEBS, NOTHINGS, Refusing, keeping, sets_of, webs_of

FOUR = ["dan", "ann", "cay", "bob"]
WEB = (("ann", "bob"), ("ann", "dan"), ("cay", "dan"))
CHAIN = tuple((NAMES[j], NAMES[k]) for j in range(8) for k in range(j + 1, 8))
# Of WEB.
NO_HEADS = NOTHINGS + [
    [],
    ["ann"],
    ("bob",),
    ("dan",),
    ("ann", "dan"),
    ("cay", "dan"),
    ("bob", "cay"),
    ("bob", "cay", "dan"),
    ("cay", "ann"),
    ("ann", "ann"),
    ("ann", "zoe"),
    ("zoe",),
    ("Ann",),
    ("ann", ("bob",)),
    ("ann", ["bob"]),
    ("ann", {"bob": 1}),
    ("ann", None),
    ("ann", 1),
    (1,),
    {"ann": "ann"},
    "a",
    (("ann",),),
]


def firsts(hands, web):
    """Of each set that stands ahead in a row that keeps the web: the hands that come next in such rows."""
    found = {}
    for row in keeping(hands, web):
        for many in range(len(row) + 1):
            found.setdefault(tuple(sorted(row[:many])), set()).update(row[many:many + 1])
    return found


class HeadsTest(unittest.TestCase, Refusing):
    def test_of_a_web(self):
        self.assertEqual(
            heads(FOUR, WEB),
            [
                (),
                ("ann",),
                ("ann", "bob"),
                ("ann", "bob", "cay"),
                ("ann", "bob", "cay", "dan"),
                ("ann", "cay"),
                ("ann", "cay", "dan"),
                ("cay",),
            ],
        )

    def test_every_web_of_up_to_four(self):
        for many in range(1, 5):
            hands = list(reversed(NAMES[:many]))
            for web in webs_of(hands):
                told = heads(hands, web)
                self.assertIs(told.__class__, list)
                self.assertEqual(told, sorted(firsts(hands, web)))

    def test_eight_hands(self):
        self.assertEqual(heads(tuple(reversed(NAMES)), ()), sets_of(NAMES))
        self.assertEqual(heads(list(NAMES), CHAIN), [NAMES[:many] for many in range(9)])

    def test_refuses_what_is_no_web(self):
        for thing in NO_WEBS:
            with self.subTest(thing=thing):
                self.refused(NoWeb, {"asked": thing}, heads, FOUR, thing)

    def test_a_told_list_is_the_askers_own(self):
        told = heads(["ann"], ())
        told.append("more")
        told[0] = None
        self.assertEqual(heads(["ann"], ()), [(), ("ann",)])

    def test_by_names(self):
        self.assertEqual(heads(web=(), hands=["ann"]), [(), ("ann",)])


class NextsTest(unittest.TestCase, Refusing):
    def test_of_each_head_of_a_web(self):
        for head, wanted in [
            ((), ["ann", "cay"]),
            (("ann",), ["bob", "cay"]),
            (("ann", "bob"), ["cay"]),
            (("ann", "bob", "cay"), ["dan"]),
            (("ann", "bob", "cay", "dan"), []),
            (("ann", "cay"), ["bob", "dan"]),
            (("ann", "cay", "dan"), ["bob"]),
            (("cay",), ["ann"]),
        ]:
            self.assertEqual(nexts(FOUR, WEB, head), wanted)

    def test_every_head_of_every_web_of_up_to_four(self):
        for many in range(1, 5):
            hands = list(reversed(NAMES[:many]))
            for web in webs_of(hands):
                found = firsts(hands, web)
                for head in sets_of(hands):
                    if head in found:
                        told = nexts(hands, web, head)
                        self.assertIs(told.__class__, list)
                        self.assertEqual(told, sorted(found[head]))
                    else:
                        self.refused(NoHead, {"asked": head}, nexts, hands, web, head)

    def test_eight_hands(self):
        for many in range(9):
            self.assertEqual(nexts(NAMES, CHAIN, NAMES[:many]), list(NAMES[many:many + 1]))
            self.assertEqual(nexts(tuple(reversed(NAMES)), (), NAMES[:many]), list(NAMES[many:]))

    def test_refuses_what_is_no_head(self):
        for thing in NO_HEADS:
            with self.subTest(thing=thing):
                self.refused(NoHead, {"asked": thing}, nexts, FOUR, WEB, thing)

    def test_a_text_is_no_head_of_its_letters(self):
        self.assertEqual(nexts(["a", "b"], (), ("a",)), ["b"])
        self.refused(NoHead, {"asked": "a"}, nexts, ["a", "b"], (), "a")
        self.refused(NoHead, {"asked": ""}, nexts, ["a", "b"], (), "")

    def test_refuses_what_is_no_web_first(self):
        for thing in NO_WEBS:
            for head in [(), ("zoe",), None]:
                with self.subTest(thing=thing, head=head):
                    self.refused(NoWeb, {"asked": thing}, nexts, FOUR, thing, head)

    def test_what_is_told_and_handed_in(self):
        hands = ["cay", "bob", "ann"]
        told = nexts(hands, (), ())
        told.append("more")
        del told[0]
        self.assertEqual(nexts(hands, (), ()), ["ann", "bob", "cay"])
        self.assertEqual(hands, ["cay", "bob", "ann"])

    def test_by_names(self):
        self.assertEqual(nexts(head=("ann",), web=WEB, hands=FOUR), ["bob", "cay"])


if __name__ == "__main__":
    unittest.main()
