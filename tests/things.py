"""Things and sayings that several tests share."""

from itertools import combinations, permutations

NAMES = ("ann", "bob", "cay", "dan", "eve", "fay", "gus", "hal")

# Nothing of this is a row, a let, a web, hands, a head, a place or a number of any kind.
NOTHINGS = [
    None,
    True,
    False,
    -1,
    -(10 ** 29),
    10 ** 29,
    "",
    "ann",
    "0",
    "ann bob\ncay",
    "Ann",
    "~ ",
    ("ann", None),
    (True, False),
    (("ann",), "bob"),
    ((("ann", "bob"),),),
    (1, 2, 3),
    ("ann", "bob", ["cay"]),
    ("ann", {"bob": 1}, ()),
    [None],
    [[], {}],
    ["ann", ["bob", ("cay",)]],
    [[[[[[["ann"]]]]]]],
    {},
    {"ann": "bob"},
    {("ann", "bob"): ["cay"], 1: None, None: {}},
    {"ann": 0, "bob": [()]},
]


def sets_of(hands):
    """All sets of hands, by another road than the program's."""
    return sorted(some for many in range(len(hands) + 1) for some in combinations(sorted(hands), many))


def lets_of(hands):
    """All lets of hands, rising."""
    return sorted(
        (p, q, ahead)
        for p, q in combinations(sorted(hands), 2)
        for ahead in sets_of([hand for hand in hands if hand not in (p, q)])
    )


class Refusing:
    """Mixed into a test: what is refused, and with which fields."""

    def refused(self, error, fields, call, *args, **named):
        with self.assertRaises(error) as caught:
            call(*args, **named)
        self.assertIs(caught.exception.__class__, error)
        for name, worth in fields.items():
            # The written form tells True from 1, which == does not.
            self.assertEqual(repr(getattr(caught.exception, name)), repr(worth))


NO_HANDS = NOTHINGS + [
    (),
    [],
    NAMES + ("zoe",),
    list(NAMES + ("zoe",)),
    ["ann", "ann"],
    ("ann", "bob", "ann"),
    ["Ann"],
    ["anN", "bob"],
    ["ann", ""],
    ["ann", "ninesigns"],
    ["ann", "bob1"],
    ["ann", "b b"],
    ["ann", "bob\n"],
    ["ann", "b_b"],
    ["`"],
    ["{"],
    ["ann", 1],
    ["ann", True],
    ["ann", None],
    ["ann", ["bob"]],
    [("ann",), "bob"],
    {"ann": "ann", "bob": "bob"},
    "a",
]

# Of ann, bob, cay, dan.
NO_LETS = NOTHINGS + [
    (),
    [],
    ("ann", "bob"),
    ("ann", "bob", (), ()),
    ("bob", "ann", ()),
    ("cay", "bob", ("ann",)),
    ("ann", "ann", ()),
    ("ann", "zoe", ()),
    ("aaa", "bob", ()),
    ("ann", "bob", ("zoe",)),
    ("ann", "bob", ("ann",)),
    ("ann", "bob", ("bob",)),
    ("ann", "bob", ("cay", "zoe")),
    ("ann", "bob", ("bob", "cay")),
    ("ann", "bob", ("dan", "cay")),
    ("ann", "bob", ("cay", "cay")),
    ["ann", "bob", ()],
    ("ann", "bob", []),
    ("ann", "bob", ["cay"]),
    ("ann", "bob", (["cay"],)),
    ("ann", "bob", (("cay",),)),
    ("ann", ["bob"], ()),
    (("ann",), "bob", ()),
    ("ann", "bob", "cay"),
    ("ann", "bob", ""),
    ("ann", "bob", None),
    ("ann", "bob", False),
    ("ann", "bob", 0),
    ("ann", "bob", {}),
    ("ann", "bob", {"cay": "cay"}),
    ("ann", "bob", ("cay", None)),
    ("ann", "bob", ("cay", 1)),
    ("ann", None, ()),
    (1, 2, ()),
    (True, "bob", ()),
    ("an", "bob", ()),
    ("Ann", "bob", ()),
    (("ann", "bob", ()),),
]

# Of ann, bob, cay, dan.
NO_WEBS = NOTHINGS + [
    [],
    "ann bob",
    [("ann", "bob")],
    ("ann", "bob"),
    (("ann", "bob"), ("bob", "cay")),
    (("ann", "bob"), ("ann", "cay"), ("bob", "cay"), ("cay", "dan")),
    (("ann", "bob"), ("ann", "cay"), ("ann", "dan"), ("bob", "cay"), ("cay", "dan")),
    (("ann", "ann"),),
    (("ann", "bob"), ("bob", "ann")),
    (("ann", "ann"), ("ann", "bob"), ("bob", "ann"), ("bob", "bob")),
    (("ann", "bob"), ("bob", "cay"), ("cay", "ann")),
    (("ann", "cay"), ("ann", "bob")),
    (("cay", "dan"), ("ann", "bob")),
    (("ann", "bob"), ("ann", "bob")),
    (("ann", "zoe"),),
    (("zoe", "ann"),),
    (("Ann", "bob"),),
    (["ann", "bob"],),
    (("ann", "bob"), ["cay", "dan"]),
    (("ann", "bob", "cay"),),
    (("ann",),),
    ((),),
    (("ann", "bob"), None),
    (("ann", "bob"), True),
    (("ann", None),),
    (("ann", 1),),
    (("ann", ("bob",)),),
    (("ann", ["bob"]),),
    (("ann", {"bob": 1}),),
    ({"ann": "bob"},),
    {("ann", "bob"): True},
    ("ab",),
]


def keeping(hands, pairs):
    """The rows of hands in which a stands ahead of b for each pair, rising."""
    return [row for row in permutations(sorted(hands)) if all(row.index(a) < row.index(b) for a, b in pairs)]


def pair_sets(hands):
    """All tuples of pairs of two unlike hands, each rising."""
    pairs = list(permutations(sorted(hands), 2))
    for many in range(len(pairs) + 1):
        yield from combinations(pairs, many)


def following(hands, pairs):
    """All that follows from pairs by which the hands can stand: what every row that keeps them has."""
    rows = keeping(hands, pairs)
    return tuple((a, b) for a, b in permutations(sorted(hands), 2) if all(row.index(a) < row.index(b) for row in rows))


def webs_of(hands):
    """All webs of hands."""
    return sorted({following(hands, pairs) for pairs in pair_sets(hands) if keeping(hands, pairs)})
