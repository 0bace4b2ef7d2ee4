"""[2], [3] What the interface lists: files, names, arguments; no object equals one of another kind."""

import inspect
import unittest
from importlib import import_module

from aheadbook.books import Book
from aheadbook.lore import Lore
from aheadbook.worths import Worths
from tests.things import NOTHINGS

# As the interface writes them: what stands behind * is told by name alone, = is a default.
FUNCTIONS = {
    "rows": ["is_row(hands, thing)", "turned(one, other)", "let_at(row, place)", "changed(row, place)"],
    "overs": [
        "over(one, other)",
        "is_between(one, other, row)",
        "count_over(one, other)",
        "over_at(one, other, number)",
    ],
    "lets": ["is_let(hands, thing)", "every_let(hands)"],
    "makers": [
        "by_pairs(hands, pairs)",
        "by_counts(hands, counts)",
        "by_between(hands, ahead, behind, *, both=False)",
        "by_web(hands, web)",
    ],
    "booktexts": ["show_book(book)", "read_book(text)"],
    "ways": ["walked(book, row, way)"],
    "lots": [
        "lot(book, row)",
        "lots(book)",
        "fewest(book, one, other)",
        "nearest(book, one, other)",
        "bound(rows)",
    ],
    "rings": ["rings(hands)", "ring_lets(three, ahead)", "marks(book, three, ahead)"],
    "breaches": ["breaches(book)", "is_fair(book)", "is_breach(book, thing)", "shown(book, breach)"],
    "webs": ["is_web(hands, thing)", "closed(hands, pairs)", "keeps(web, row)", "ties(hands, web)"],
    "heads": ["heads(hands, web)", "nexts(hands, web, head)"],
    "counting": [
        "count_rows(hands, web)",
        "row_at(hands, web, number)",
        "number_of(hands, web, row)",
        "places_of(hands, web, hand)",
        "count_ahead(hands, web, one, other)",
    ],
    "looker": ["is_lot(book, thing)"],
    "fairlots": ["web_at(book, row)", "parted(book, one, other)", "way(book, one, other)", "webs(book)"],
    "tallies": ["behind(book)", "is_behind(book, thing)", "count_lots(book)", "count_lots_by(book, head)"],
    "grounds": [
        "least_fair(book)",
        "ground(book, let)",
        "is_ground(book, let, thing)",
        "bringing(book, one, other)",
    ],
    "meeting": ["met(one, other)", "joined(one, other)", "within(one, other)"],
    "bylots": ["book_of(hands, webs)", "both(hands, one, other)"],
    "others": [
        "after(book, head)",
        "before(book, tail)",
        "mirrored(book)",
        "renamed(book, names)",
        "beside(one, other)",
        "stacked(one, other)",
    ],
    "worths": ["gains(worths, row)", "plus(one, other)", "covering(hands, goods, prices)", "capped(hands, rows)"],
    "falling": ["rise(worths)", "even_book(worths)"],
    "payments": ["used(worths, pay)", "paid(worths, pay)", "is_bar(worths, pay, thing)"],
    "mixtures": ["mixed(worths, pay)", "is_mixture(worths, pay, thing)", "all_gains(worths)"],
    "prices": ["best(worths, prices)", "least(worths, prices)", "bound_of(worths, prices, thing, *, low=False)"],
}
METHODS = {
    ("books", "Book"): ["__init__(self, hands, lets=())", "hands(self)", "lets(self)", "has(self, thing)"],
    ("worths", "Worths"): ["__init__(self, hands, table)", "hands(self)", "worth(self, thing)"],
    ("lore", "Lore"): [
        "__init__(self, hands)",
        "tell(self, teller, let)",
        "strike(self, teller, let)",
        "told(self)",
        "holds(self, thing)",
        "book(self)",
        "ground(self, let)",
        "keep(self, name, row)",
        "leave(self, name)",
        "go(self, name, place)",
        "rows(self)",
        "apart(self, one, other)",
        "together(self)",
        "acts(self)",
        "back(self)",
        "on(self)",
    ],
}
SIGNS = {"Book": ["__eq__", "__len__"], "Worths": ["__eq__", "__len__"], "Lore": ["__eq__"]}


class InterfaceTest(unittest.TestCase):
    def check(self, thing, written):
        name = written.partition("(")[0]
        self.assertTrue(inspect.isfunction(thing))
        self.assertEqual(name + str(inspect.signature(thing)), written)

    def test_each_function_stands_in_its_file_with_its_arguments(self):
        for file, functions in FUNCTIONS.items():
            module = import_module(f"aheadbook.{file}")
            for written in functions:
                with self.subTest(file=file, written=written):
                    thing = getattr(module, written.partition("(")[0])
                    self.check(thing, written)
                    self.assertEqual(thing.__module__, module.__name__)

    def test_each_class_has_its_own_methods(self):
        for (file, name), methods in METHODS.items():
            made = getattr(import_module(f"aheadbook.{file}"), name)
            self.assertEqual(made.__module__, f"aheadbook.{file}")
            for written in methods:
                with self.subTest(name=name, written=written):
                    self.check(vars(made)[written.partition("(")[0]], written)
            for sign in SIGNS[name]:
                self.assertIn(sign, vars(made))


class EqualTest(unittest.TestCase):
    def test_nothing_equals_anything_of_another_kind(self):
        hands = ("ann",)
        kinds = [Book(hands), Worths(hands, {(): 0, hands: 0}), Lore(hands)]
        for one in kinds:
            for other in kinds:
                self.assertIs(one == other, one is other)
                self.assertIs(one != other, one is not other)
            for thing in NOTHINGS + [hands, [], (), 0, 2, object(), Book, [one], (one,)]:
                self.assertIs(one == thing, False)
                self.assertIs(thing == one, False)
                self.assertIs(one != thing, True)


if __name__ == "__main__":
    unittest.main()
