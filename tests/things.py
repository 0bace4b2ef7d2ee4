"""Things and sayings that several tests share."""

from itertools import combinations

NAMES = ("ann", "bob", "cay", "dan", "eve", "fay", "gus", "hal")

# Nothing of this is a row, a let, a web, hands, a head, a place or a number of any kind.
NOTHINGS = [
    None,
    True,
    False,
    -1,
    -(10 ** 29),
    10 ** 29,
    "",
    "ann",
    "0",
    "ann bob\ncay",
    "Ann",
    "~ ",
    ("ann", None),
    (True, False),
    (("ann",), "bob"),
    ((("ann", "bob"),),),
    (1, 2, 3),
    ("ann", "bob", ["cay"]),
    ("ann", {"bob": 1}, ()),
    [None],
    [[], {}],
    ["ann", ["bob", ("cay",)]],
    [[[[[[["ann"]]]]]]],
    {},
    {"ann": "bob"},
    {("ann", "bob"): ["cay"], 1: None, None: {}},
    {"ann": 0, "bob": [()]},
]


def sets_of(hands):
    """All sets of hands, by another road than the program's."""
    return sorted(some for many in range(len(hands) + 1) for some in combinations(sorted(hands), many))


def lets_of(hands):
    """All lets of hands, rising."""
    return sorted(
        (p, q, ahead)
        for p, q in combinations(sorted(hands), 2)
        for ahead in sets_of([hand for hand in hands if hand not in (p, q)])
    )


class Refusing:
    """Mixed into a test: what is refused, and with which fields."""

    def refused(self, error, fields, call, *args, **named):
        with self.assertRaises(error) as caught:
            call(*args, **named)
        self.assertIs(caught.exception.__class__, error)
        for name, worth in fields.items():
            # The written form tells True from 1, which == does not.
            self.assertEqual(repr(getattr(caught.exception, name)), repr(worth))
