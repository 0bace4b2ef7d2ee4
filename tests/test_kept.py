"""[2] What a refusal keeps of the thing handed in is a copy."""

import unittest

from aheadbook.books import Book
from aheadbook.breaches import shown
from aheadbook.bylots import book_of, both
from aheadbook.counting import count_ahead, count_rows, number_of, places_of, row_at
from aheadbook.fairlots import parted, way, web_at
from aheadbook.grounds import bringing, ground
from aheadbook.heads import heads, nexts
from aheadbook.lets import every_let
from aheadbook.lore import Lore
from aheadbook.lots import fewest, lot, nearest
from aheadbook.makers import by_between, by_counts, by_pairs, by_web
from aheadbook.others import after, before, renamed
from aheadbook.overs import count_over, is_between, over, over_at
from aheadbook.rows import changed, let_at, turned
from aheadbook.tallies import count_lots_by
from aheadbook.ways import walked
from aheadbook.webs import keeps, ties
from aheadbook.worths import Worths, capped, covering, gains

ROW = ("ann", "bob")
WORTHS = capped(ROW, [(ROW, 1)])


def lore_of_a_row():
    lore = Lore(ROW)
    lore.keep("left", ROW)
    return lore


CALLS = [
    lambda thing: turned(thing, ROW),
    lambda thing: turned(ROW, thing),
    lambda thing: changed(thing, 0),
    lambda thing: changed(ROW, thing),
    lambda thing: let_at(thing, 0),
    lambda thing: let_at(ROW, thing),
    lambda thing: over(thing, ROW),
    lambda thing: is_between(ROW, ROW, thing),
    lambda thing: count_over(ROW, thing),
    lambda thing: over_at(ROW, thing, 0),
    lambda thing: over_at(ROW, ROW, thing),
    every_let,
    Book,
    lambda thing: Book(ROW, [thing]),
    lambda thing: by_pairs(thing, []),
    lambda thing: by_counts(thing, []),
    lambda thing: by_between(thing, 0, 0),
    lambda thing: by_web(thing, ()),
    lambda thing: by_web(ROW, thing),
    lambda thing: keeps(thing, ROW),
    lambda thing: ties(ROW, thing),
    lambda thing: heads(ROW, thing),
    lambda thing: nexts(ROW, (), thing),
    lambda thing: walked(Book(ROW), thing, ()),
    lambda thing: lot(Book(ROW), thing),
    lambda thing: fewest(Book(ROW), thing, ROW),
    lambda thing: nearest(Book(ROW), ROW, thing),
    lambda thing: shown(Book(ROW), thing),
    lambda thing: count_rows(ROW, thing),
    lambda thing: row_at(ROW, (), thing),
    lambda thing: number_of(ROW, (), thing),
    lambda thing: places_of(ROW, (), thing),
    lambda thing: count_ahead(ROW, (), thing, "ann"),
    lambda thing: count_ahead(ROW, (), "ann", thing),
    lambda thing: web_at(Book(ROW), thing),
    lambda thing: parted(Book(ROW), ROW, thing),
    lambda thing: way(Book(ROW), thing, ROW),
    lambda thing: count_lots_by(Book(ROW), thing),
    lambda thing: ground(Book(ROW), thing),
    lambda thing: bringing(Book(ROW), thing, ROW),
    lambda thing: bringing(Book(ROW), ROW, thing),
    lambda thing: book_of(ROW, [thing]),
    lambda thing: both(ROW, thing, ()),
    lambda thing: both(ROW, (), thing),
    lambda thing: after(Book(ROW), thing),
    lambda thing: before(Book(ROW), thing),
    lambda thing: renamed(Book(ROW), thing),
    lambda thing: Worths(thing, {}),
    WORTHS.worth,
    lambda thing: gains(WORTHS, thing),
    lambda thing: covering(thing, {}, {}),
    lambda thing: capped(thing, []),
    Lore,
    lambda thing: lore_of_a_row().tell(thing, ("ann", "bob", ())),
    lambda thing: lore_of_a_row().tell("tom", thing),
    lambda thing: lore_of_a_row().ground(thing),
    lambda thing: lore_of_a_row().keep(thing, ROW),
    lambda thing: lore_of_a_row().keep("left", thing),
    lambda thing: lore_of_a_row().leave(thing),
    lambda thing: lore_of_a_row().go(thing, 0),
    lambda thing: lore_of_a_row().go("left", thing),
    lambda thing: lore_of_a_row().apart(thing, "left"),
    lambda thing: lore_of_a_row().apart("left", thing),
]


class KeptTest(unittest.TestCase):
    def kept(self, call, thing):
        with self.assertRaises((ValueError, LookupError)) as caught:
            call(thing)
        return caught.exception.asked

    def test_of_lists_tuples_and_dicts(self):
        for k, call in enumerate(CALLS):
            with self.subTest(call=k):
                for thing, inner in [
                    (["ann", ["bob"]], lambda whole: whole[1]),
                    (("ann", ["bob"]), lambda whole: whole[1]),
                    (("ann", (["bob"],)), lambda whole: whole[1][0]),
                    ({"ann": ["bob"]}, lambda whole: whole["ann"]),
                    ([{"ann": (["bob"],)}], lambda whole: whole[0]["ann"][0]),
                ]:
                    kept = self.kept(call, thing)
                    self.assertEqual(kept, thing)
                    inner(kept).append("more")
                    self.assertEqual(inner(thing), ["bob"])

    def test_of_lets_that_are_no_list(self):
        thing = {"ann": ["bob"]}
        kept = self.kept(lambda lets: Book(ROW, lets), thing)
        kept["ann"].append("more")
        kept["bob"] = None
        self.assertEqual(thing, {"ann": ["bob"]})


if __name__ == "__main__":
    unittest.main()
