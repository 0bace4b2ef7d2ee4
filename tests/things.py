"""Things and sayings that several tests share."""

from itertools import combinations, permutations
from zlib import crc32

NAMES = ("ann", "bob", "cay", "dan", "eve", "fay", "gus", "hal")

# Nothing of this is a row, a let, a web, hands, a head, a place or a number of any kind.
NOTHINGS = [
    None,
    True,
    False,
    -1,
    -(10 ** 29),
    10 ** 29,
    "",
    "ann",
    "0",
    "ann bob\ncay",
    "Ann",
    "~ ",
    ("ann", None),
    (True, False),
    (("ann",), "bob"),
    ((("ann", "bob"),),),
    (1, 2, 3),
    ("ann", "bob", ["cay"]),
    ("ann", {"bob": 1}, ()),
    [None],
    [[], {}],
    ["ann", ["bob", ("cay",)]],
    [[[[[[["ann"]]]]]]],
    {},
    {"ann": "bob"},
    {("ann", "bob"): ["cay"], 1: None, None: {}},
    {"ann": 0, "bob": [()]},
]


def sets_of(hands):
    """All sets of hands, by another road than the program's."""
    return sorted(some for many in range(len(hands) + 1) for some in combinations(sorted(hands), many))


def lets_of(hands):
    """All lets of hands, rising."""
    return sorted(
        (p, q, ahead)
        for p, q in combinations(sorted(hands), 2)
        for ahead in sets_of([hand for hand in hands if hand not in (p, q)])
    )


class Refusing:
    """Mixed into a test: what is refused, and with which fields."""

    def refused(self, error, fields, call, *args, **named):
        with self.assertRaises(error) as caught:
            call(*args, **named)
        self.assertIs(caught.exception.__class__, error)
        for name, worth in fields.items():
            # The written form tells True from 1, which == does not.
            self.assertEqual(repr(getattr(caught.exception, name)), repr(worth))


NO_HANDS = NOTHINGS + [
    (),
    [],
    NAMES + ("zoe",),
    list(NAMES + ("zoe",)),
    ["ann", "ann"],
    ("ann", "bob", "ann"),
    ["Ann"],
    ["anN", "bob"],
    ["ann", ""],
    ["ann", "ninesigns"],
    ["ann", "bob1"],
    ["ann", "b b"],
    ["ann", "bob\n"],
    ["ann", "b_b"],
    ["`"],
    ["{"],
    ["ann", 1],
    ["ann", True],
    ["ann", None],
    ["ann", ["bob"]],
    [("ann",), "bob"],
    {"ann": "ann", "bob": "bob"},
    "a",
]

# Of ann, bob, cay, dan.
NO_LETS = NOTHINGS + [
    (),
    [],
    ("ann", "bob"),
    ("ann", "bob", (), ()),
    ("bob", "ann", ()),
    ("cay", "bob", ("ann",)),
    ("ann", "ann", ()),
    ("ann", "zoe", ()),
    ("aaa", "bob", ()),
    ("ann", "bob", ("zoe",)),
    ("ann", "bob", ("ann",)),
    ("ann", "bob", ("bob",)),
    ("ann", "bob", ("cay", "zoe")),
    ("ann", "bob", ("bob", "cay")),
    ("ann", "bob", ("dan", "cay")),
    ("ann", "bob", ("cay", "cay")),
    ["ann", "bob", ()],
    ("ann", "bob", []),
    ("ann", "bob", ["cay"]),
    ("ann", "bob", (["cay"],)),
    ("ann", "bob", (("cay",),)),
    ("ann", ["bob"], ()),
    (("ann",), "bob", ()),
    ("ann", "bob", "cay"),
    ("ann", "bob", ""),
    ("ann", "bob", None),
    ("ann", "bob", False),
    ("ann", "bob", 0),
    ("ann", "bob", {}),
    ("ann", "bob", {"cay": "cay"}),
    ("ann", "bob", ("cay", None)),
    ("ann", "bob", ("cay", 1)),
    ("ann", None, ()),
    (1, 2, ()),
    (True, "bob", ()),
    ("an", "bob", ()),
    ("Ann", "bob", ()),
    (("ann", "bob", ()),),
]

# Of ann, bob, cay, dan.
NO_WEBS = NOTHINGS + [
    [],
    "ann bob",
    [("ann", "bob")],
    ("ann", "bob"),
    (("ann", "bob"), ("bob", "cay")),
    (("ann", "bob"), ("ann", "cay"), ("bob", "cay"), ("cay", "dan")),
    (("ann", "bob"), ("ann", "cay"), ("ann", "dan"), ("bob", "cay"), ("cay", "dan")),
    (("ann", "ann"),),
    (("ann", "bob"), ("bob", "ann")),
    (("ann", "ann"), ("ann", "bob"), ("bob", "ann"), ("bob", "bob")),
    (("ann", "bob"), ("bob", "cay"), ("cay", "ann")),
    (("ann", "cay"), ("ann", "bob")),
    (("cay", "dan"), ("ann", "bob")),
    (("ann", "bob"), ("ann", "bob")),
    (("ann", "zoe"),),
    (("zoe", "ann"),),
    (("Ann", "bob"),),
    (["ann", "bob"],),
    (("ann", "bob"), ["cay", "dan"]),
    (("ann", "bob", "cay"),),
    (("ann",),),
    ((),),
    (("ann", "bob"), None),
    (("ann", "bob"), True),
    (("ann", None),),
    (("ann", 1),),
    (("ann", ("bob",)),),
    (("ann", ["bob"]),),
    (("ann", {"bob": 1}),),
    ({"ann": "bob"},),
    {("ann", "bob"): True},
    ("ab",),
]


def keeping(hands, pairs):
    """The rows of hands in which a stands ahead of b for each pair, rising."""
    return [row for row in permutations(sorted(hands)) if all(row.index(a) < row.index(b) for a, b in pairs)]


def pair_sets(hands):
    """All tuples of pairs of two unlike hands, each rising."""
    pairs = list(permutations(sorted(hands), 2))
    for many in range(len(pairs) + 1):
        yield from combinations(pairs, many)


def following(hands, pairs):
    """All that follows from pairs by which the hands can stand: what every row that keeps them has."""
    rows = keeping(hands, pairs)
    return tuple((a, b) for a, b in permutations(sorted(hands), 2) if all(row.index(a) < row.index(b) for row in rows))


def webs_of(hands):
    """All webs of hands."""
    return sorted({following(hands, pairs) for pairs in pair_sets(hands) if keeping(hands, pairs)})


def wanted_let(row, place):
    """What the change of a row at a place wants."""
    return (*sorted(row[place:place + 2]), tuple(sorted(row[:place])))


def let_steps(lets, row):
    """Each place at which a change is let, with the row behind it."""
    for place in range(len(row) - 1):
        if wanted_let(row, place) in lets:
            yield place, row[:place] + (row[place + 1], row[place]) + row[place + 2:]


def spread(lets, row):
    """Of each row that let ways lead to from this one: the fewest changes."""
    found = {row: 0}
    queue = [row]
    for earlier in queue:
        for _, later in let_steps(lets, earlier):
            if later not in found:
                found[later] = found[earlier] + 1
                queue.append(later)
    return found


def lots_by_going(hands, lets):
    """All lots, each a list of rows, rising."""
    return sorted({tuple(sorted(spread(lets, row))) for row in permutations(hands)})


def bound_in(rows):
    """The pairs that stand alike in all of the rows, rising."""
    return [
        (a, b)
        for a, b in permutations(sorted(rows[0]), 2)
        if all(row.index(a) < row.index(b) for row in rows)
    ]


def standing_otherwise(one, other):
    """How many pairs stand otherwise in two rows."""
    return sum((one.index(a) < one.index(b)) != (other.index(a) < other.index(b)) for a, b in combinations(one, 2))


def all_rings(hands):
    """All rings, tuples (three, ahead), rising."""
    return sorted(
        (three, ahead)
        for three in combinations(sorted(hands), 3)
        for ahead in sets_of([hand for hand in hands if hand not in three])
    )


def orders_of(three):
    """The six orders of a ring."""
    i, j, m = three
    return [(i, j, m), (j, i, m), (j, m, i), (m, j, i), (m, i, j), (i, m, j)]


def lets_of_ring(three, ahead):
    """The six lets of a ring, by what leads from each order to the next one."""
    found = []
    for one, other in zip(orders_of(three), orders_of(three)[1:] + orders_of(three)[:1]):
        place = len(ahead) + (0 if one[0] != other[0] else 1)
        found.append(wanted_let(ahead + one, place))
    return found


def some_lets(hands, seed, share):
    """Lets picked here and there: about so many of a hundred."""
    return [let for let in lets_of(hands) if crc32(f"{seed} {let}".encode()) % 100 < share]


def fair_lets(hands, lets):
    """These lets, and all that follow from them ring by ring, rising."""
    held = set(lets)
    size = -1
    while size != len(held):
        size = len(held)
        for three, ahead in all_rings(hands):
            six = lets_of_ring(three, ahead)
            if any(all(six[(start + k) % 6] in held for k in range(3)) for start in range(6)):
                held.update(six)
    return sorted(held)


def fair_books_of(most):
    """Hands and lets of fair books, here and there."""
    for many in range(1, most + 1):
        hands = NAMES[:many]
        for seed, share in enumerate([0, 4, 8, 12, 16, 25, 40, 100]):
            yield hands, fair_lets(hands, some_lets(hands, seed, share))
        # All that the rows which keep a web want, to go through them alone.
        for pairs in [[], [("ann", "bob")], [("bob", "ann"), ("bob", "cay")], [("cay", "ann"), ("dan", "bob")]]:
            held = [pair for pair in pairs if pair[0] in hands and pair[1] in hands]
            rows = keeping(hands, held)
            yield hands, sorted({
                wanted_let(row, k)
                for row in rows
                for k in range(many - 1)
                if all((row[k], row[k + 1]) != pair for pair in following(hands, held))
            })


# Of ann, bob, cay, dan: what is no set of them.
NO_SETS = NOTHINGS + [
    [],
    ["ann"],
    ("bob", "ann"),
    ("ann", "ann"),
    ("zoe",),
    ("ann", "zoe"),
    ("Ann",),
    ("ann", "bob", "cay", "dan", "eve"),
    (("ann",),),
    ("ann", ["bob"]),
    ("ann", None),
    (True,),
    "bob",
    {"ann": "ann"},
]

# What is no name.
NO_NAMES = NOTHINGS[:7] + NOTHINGS[8:] + [
    "Ann",
    "anN",
    "ninesigns",
    "ann1",
    "a b",
    "ann\n",
    "a_b",
    "`",
    "{",
    ("ann",),
    ["ann"],
    {"ann": 1},
]


def of_set(amounts, members):
    """What the amounts of these hands add to."""
    return sum(amounts[hand] for hand in members)


def as_set(hands):
    """The hands, rising."""
    return tuple(sorted(hands))


def gains_by_words(table, row):
    """Of each hand what the set ahead wins by it."""
    return {hand: table[as_set(row[:k + 1])] - table[as_set(row[:k])] for k, hand in enumerate(row)}


def rising_lets(hands, table):
    """The lets that rise, rising."""
    return [
        (p, q, ahead)
        for p, q, ahead in lets_of(hands)
        if table[as_set(ahead + (p,))] + table[as_set(ahead + (q,))] < table[as_set(ahead + (p, q))] + table[ahead]
    ]


def covering_table(hands, goods, prices):
    """The worths of goods: each of those that any of a set has, once."""
    return {some: sum(prices[good] for good in set().union(*(goods[hand] for hand in some))) for some in sets_of(hands)}


def capped_table(hands, rows):
    """The worths of caps on sets."""
    return {some: sum(min(most, len(set(some) & set(each))) for each, most in rows) for some in sets_of(hands)}


def sum_table(one, other):
    """Each set's worths added."""
    return {members: one[members] + other[members] for members in one}


def picked(seed, count):
    """A number below count, picked here and there."""
    return crc32(str(seed).encode()) % count


def some_goods(hands, seed):
    """Goods of each hand, and prices."""
    goods = {hand: ["gnu" * (picked((seed, hand, k), 2) + 1) + "abcde"[picked((seed, k, hand), 5)]
                    for k in range(picked((seed, hand), 4))] for hand in hands}
    names = sorted({good for hand in hands for good in goods[hand]} | {"unheld"})
    return goods, {good: picked((seed, good), 5) for good in names}


def some_caps(hands, seed):
    """Rows (set, most)."""
    return [
        (as_set(hand for hand in hands if picked((seed, k, hand), 3)), picked((seed, k), len(hands) + 1))
        for k in range(1 + seed % 3)
    ]


def falling_tables(hands, many):
    """Tables of falling worths, so many."""
    for seed in range(many):
        table = capped_table(hands, some_caps(hands, seed))
        if seed % 3:
            table = sum_table(table, covering_table(hands, *some_goods(hands, seed)))
        if seed % 2:
            # What each hand brings wherever it comes, also below 0, lets worths fall as they do.
            alone = {hand: picked((seed, hand, "alone"), 9) - 5 for hand in hands}
            table = sum_table(table, {members: of_set(alone, members) for members in table})
        yield table


def other_tables(hands, many):
    """Tables of worths, so many, which mostly are not falling."""
    for seed in range(many):
        yield {members: picked((seed, members), 7) - 3 if members else 0 for members in sets_of(hands)}
