"""[4] What the whole promises, by going through rows."""

import unittest
from itertools import combinations, permutations

from aheadbook.books import Book
from aheadbook.breaches import breaches, is_fair, shown
from aheadbook.bylots import book_of
from aheadbook.counting import count_rows
from aheadbook.errors import NoGround, NotPaid
from aheadbook.fairlots import parted, way, web_at, webs
from aheadbook.falling import even_book, rise
from aheadbook.grounds import ground, is_ground, least_fair
from aheadbook.looker import is_lot
from aheadbook.lore import Lore
from aheadbook.lots import bound, fewest, lots
from aheadbook.makers import by_between, by_counts, by_pairs, by_web
from aheadbook.mixtures import is_mixture, mixed
from aheadbook.payments import is_bar, paid
from aheadbook.prices import best, bound_of, least
from aheadbook.tallies import count_lots
from aheadbook.ways import walked
from aheadbook.worths import Worths, gains
from tests.things import (
    NAMES,
    Refusing,
    fair_books_of,
    fair_lets,
    falling_tables,
    keeping,
    lets_of,
    of_set,
    picked,
    some_lets,
    spread,
    standing_otherwise,
    webs_of,
)


def every_book_of_three():
    lets = lets_of(NAMES[:3])
    for many in range(len(lets) + 1):
        for some in combinations(lets, many):
            yield Book(NAMES[:3], some)


def books_here_and_there():
    """Books of up to five hands, fair ones and others."""
    for many in (1, 2, 4, 5):
        hands = NAMES[:many]
        for seed, share in enumerate([0, 10, 20, 30, 45, 60, 75, 90, 100]):
            lets = some_lets(hands, seed, share)
            yield Book(hands, lets)
            yield Book(hands, fair_lets(hands, lets))
            for let in fair_lets(hands, lets)[::17]:
                yield Book(hands, [other for other in fair_lets(hands, lets) if other != let])


def made_books():
    four, five = NAMES[:4], NAMES[:5]
    for web in webs_of(four):
        yield by_web(four, web)
    for pairs in permutations(combinations(four, 2), 2):
        yield by_pairs(four, pairs)
    for counts in [[0], [1], [2], [3], [0, 2], [0, 3], [1, 3], [0, 1, 3]]:
        yield by_counts(five, counts)
    for ahead, behind in [(1, None), (None, 1), (1, 1), (2, 2), (2, 1)]:
        for both in (False, True):
            yield by_between(five, ahead, behind, both=both)


def fair_by_going(book):
    """Whether each lot has all rows that keep its bound pairs, each two as few let changes apart as they are far."""
    lets = set(book.lets())
    for rows in lots(book):
        if keeping(book.hands(), bound(rows)) != rows:
            return False
        for one in rows:
            steps = spread(lets, one)
            if any(steps[other] != standing_otherwise(one, other) for other in rows):
                return False
    return True


class FairTest(unittest.TestCase):
    def check(self, books):
        told = set()
        for book in books:
            fair = is_fair(book)
            told.add(fair)
            self.assertIs(fair, fair_by_going(book))
            self.assertEqual(breaches(book) == [], fair)
        return told

    def test_every_book_of_three_hands(self):
        self.assertEqual(self.check(every_book_of_three()), {True, False})

    def test_books_here_and_there(self):
        self.assertEqual(self.check(books_here_and_there()), {True, False})

    def test_made_books(self):
        self.check(made_books())

    def test_where_a_book_is_not_fair_a_ring_shows_it(self):
        for book in books_here_and_there():
            for breach in breaches(book)[:3]:
                row, way, other = shown(book, breach)
                last = walked(book, row, way)[-1]
                rows = sorted(spread(set(book.lets()), row))
                self.assertIn(last, rows)
                # Other keeps all bound pairs one change away: it is no row of the lot, or further by lets.
                self.assertIn(other, keeping(book.hands(), bound(rows)))
                self.assertEqual(standing_otherwise(last, other), 1)
                self.assertNotEqual(fewest(book, last, other), 1)


class LotsTest(unittest.TestCase):
    """The second row of [4]: of fair books, up to five hands."""

    def test_a_web_that_the_looker_takes_tells_a_lot(self):
        for hands, lets in fair_books_of(5):
            book = Book(hands, lets)
            for rows in lots(book):
                told = {web_at(book, row) for row in rows}
                self.assertEqual(len(told), 1)
                web = told.pop()
                self.assertIs(is_lot(book, web), True)
                self.assertEqual(keeping(hands, web), rows)
                self.assertEqual(count_rows(hands, web), len(rows))

    def test_of_two_rows_a_shortest_way_of_lets_or_a_pair(self):
        for hands, lets in fair_books_of(5):
            book = Book(hands, lets)
            rows = list(permutations(hands))
            for one, other in zip(rows[::3], rows[1::2] + rows[::5]):
                pair = parted(book, one, other)
                if pair is None:
                    told = way(book, one, other)
                    self.assertEqual(len(told), standing_otherwise(one, other))
                    self.assertEqual(walked(book, one, told)[-1], other)
                else:
                    a, b = pair
                    self.assertIn(pair, bound(sorted(spread(set(lets), one))))
                    self.assertLess(other.index(b), other.index(a))

    def test_lots_and_their_rows_are_counted(self):
        for hands, lets in fair_books_of(5):
            book = Book(hands, lets)
            told = webs(book)
            self.assertEqual(len(told), len(lots(book)))
            self.assertEqual(count_lots(book), len(told))
            self.assertEqual(sum(count_rows(hands, web) for web in told), len(list(permutations(hands))))


class GroundsTest(unittest.TestCase, Refusing):
    """The third row of [4]."""

    def test_a_ground_that_the_looker_walks_or_a_fair_book_that_lacks_it(self):
        found = set()
        for book in [*list(every_book_of_three())[::5], *books_here_and_there()]:
            least_book = least_fair(book)
            self.assertIs(fair_by_going(least_book), True)
            self.assertTrue(all(least_book.has(let) for let in book.lets()))
            for let in lets_of(book.hands())[::3]:
                follows = least_book.has(let)
                found.add(follows)
                if follows:
                    self.assertIs(is_ground(book, let, ground(book, let)), True)
                else:
                    self.refused(NoGround, {"asked": let}, ground, book, let)
        self.assertEqual(found, {True, False})

    def test_what_has_a_ground_is_in_each_fair_book_that_has_the_lets(self):
        books = list(every_book_of_three())
        fair = [book for book in books if fair_by_going(book)]
        for book in books:
            above = [other for other in fair if all(other.has(let) for let in book.lets())]
            for let in lets_of(NAMES[:3]):
                follows = all(other.has(let) for other in above)
                self.assertIs(least_fair(book).has(let), follows)


class ToldTest(unittest.TestCase):
    """The fourth row of [4]."""

    def test_fair_books_and_lists_of_webs_are_told_from_one_another(self):
        told = {}
        for book in [*every_book_of_three(), *made_books(), *books_here_and_there()]:
            if is_fair(book):
                some = webs(book)
                self.assertEqual(book_of(book.hands(), some), book)
                self.assertEqual(book_of(book.hands(), some[::-1]), book)
                told.setdefault((book.hands(), tuple(some)), book)
                self.assertEqual(told[(book.hands(), tuple(some))], book)


class WorthsTest(unittest.TestCase):
    """The fifth row of [4]: of falling worths, by going through rows."""

    def worths(self):
        for many in range(1, 5):
            hands = NAMES[:many]
            for table in falling_tables(hands, 6):
                yield Worths(hands, table), list(permutations(hands))

    def test_two_orders_pay_alike_just_where_they_are_of_one_lot(self):
        for worths, rows in self.worths():
            self.assertIsNone(rise(worths))
            book = even_book(worths)
            for one in rows:
                for other in rows:
                    alike = gains(worths, one) == gains(worths, other)
                    self.assertIs(parted(book, one, other) is None, alike)
                self.assertEqual(paid(worths, gains(worths, one)), web_at(book, one))

    def test_what_no_order_pays_has_a_bar(self):
        for worths, rows in self.worths():
            told = [gains(worths, row) for row in rows]
            for k in range(20):
                pay = self.near(worths, told, k)
                try:
                    web = paid(worths, pay)
                    paying = [row for row in rows if gains(worths, row) == pay]
                    self.assertEqual(paying, keeping(rows[0], web))
                except NotPaid as error:
                    self.assertNotIn(pay, told)
                    self.assertIs(is_bar(worths, pay, error.bar), True)

    def test_what_no_mixture_pays_has_a_set_that_gets_too_much(self):
        for worths, rows in self.worths():
            told = [gains(worths, row) for row in rows]
            for k in range(20):
                pay = self.near(worths, told, k)
                try:
                    self.assertIs(is_mixture(worths, pay, mixed(worths, pay)), True)
                except NotPaid as error:
                    self.assertIs(is_bar(worths, pay, error.bar), True)
                    # No row, and so no mixture, pays a set more than its worth, or all together another sum.
                    word, *some = error.bar
                    members = some[0] if some else rows[0]
                    most, asked = max(of_set(gain, members) for gain in told), of_set(pay, members)
                    self.assertTrue(most < asked or (word == "all" and most != asked))

    def near(self, worths, told, k):
        """Payments of a row, some of which are moved."""
        hands = worths.hands()
        pay = dict(told[picked((k, "row"), len(told))])
        for step in range(k % 4):
            pay[hands[picked((k, step), len(hands))]] += picked((step, k), 3) - 1
        return pay

    def test_no_order_brings_more_than_the_told_one_by_a_paper(self):
        for worths, rows in self.worths():
            for k in range(6):
                prices = {hand: picked((k, hand), 9) - 4 for hand in worths.hands()}
                every = [sum(gain * prices[hand] for hand, gain in gains(worths, row).items()) for row in rows]
                row, number, paper = best(worths, prices)
                self.assertEqual((number, every[rows.index(row)]), (max(every), max(every)))
                self.assertEqual(bound_of(worths, prices, paper), number)
                row, number, paper = least(worths, prices)
                self.assertEqual((number, every[rows.index(row)]), (min(every), min(every)))
                self.assertEqual(bound_of(worths, prices, paper, low=True), number)


class HistoryTest(unittest.TestCase):
    """The sixth row of [4]."""

    def test_just_what_follows_from_what_is_told_and_not_struck_holds(self):
        for hands in (NAMES[:3], NAMES[:4]):
            lets = lets_of(hands)
            for seed in range(8):
                lore, said, states = Lore(hands), [], [[]]
                for k in range(20):
                    let, teller = lets[picked((seed, k), len(lets))], ("tom", "amy")[picked((k, seed), 2)]
                    if said and not picked((seed, "strike", k), 3):
                        teller, let = said[0]
                        lore.strike(teller, let)
                        said = [each for each in said if each != (teller, let)]
                    else:
                        lore.tell(teller, let)
                        said = [each for each in said if each != (teller, let)] + [(teller, let)]
                    states.append(list(said))
                    self.holding(lore, said)
                for back in range(1, 21):
                    lore.back()
                    self.holding(lore, states[-1 - back])
                for k in range(1, 13):
                    lore.on()
                    self.holding(lore, states[k])

    def holding(self, lore, said):
        lets = sorted({let for _, let in said})
        self.assertEqual([let for let, _ in lore.told()], lets)
        hands = lore.book().hands()
        wanted = fair_lets(hands, lets)
        self.assertEqual([let for let in lets_of(hands) if lore.holds(let)], wanted)
        self.assertEqual(lore.book().lets(), wanted)


if __name__ == "__main__":
    unittest.main()
