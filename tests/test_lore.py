"""[30], [31], [32] Lores: lets told and struck, rows that move, acts taken back; [2] and [3] of them."""

import unittest

from aheadbook.books import Book
from aheadbook.errors import NoGround, NoHands, NoKept, NoLet, NoMore, NoName, NoPlace, NoRow, NotLet, NotTold
from aheadbook.grounds import is_ground
from aheadbook.lore import Lore
from aheadbook.worths import Worths
from tests.test_ways import NO_ROWS
from tests.things import (
    NAMES,
    NO_HANDS,
    NO_LETS,
    NO_NAMES,
    NOTHINGS,
    Refusing,
    bound_in,
    fair_lets,
    lets_of,
    lets_of_ring,
    picked,
    spread,
    wanted_let,
)

THREE = NAMES[:3]
FOUR = NAMES[:4]
SIX = lets_of_ring(THREE, ())
LET = ("ann", "bob", ())
TELLERS = ("tom", "sue", "amy")
ROW_NAMES = ("left", "right", "mid")


class Model:
    """What the words tell of a lore, worked out anew from its acts each time."""

    def __init__(self, hands, acts=()):
        self.hands, self.acts = hands, list(acts)
        self.said, self.kept = set(), {}
        for word, *rest in self.acts:
            getattr(self, word)(*rest)

    def tell(self, teller, let):
        self.said.add((let, teller))

    def strike(self, teller, let):
        self.said.remove((let, teller))

    def keep(self, name, row):
        self.kept[name] = row

    def leave(self, name):
        del self.kept[name]

    def go(self, name, place):
        row = self.kept[name]
        assert wanted_let(row, place) in self.holding()
        self.kept[name] = row[:place] + (row[place + 1], row[place]) + row[place + 2:]

    def told(self):
        lets = sorted({let for let, _ in self.said})
        return [(let, tuple(sorted(who for other, who in self.said if other == let))) for let in lets]

    def lets(self):
        return [let for let, _ in self.told()]

    def holding(self):
        return fair_lets(self.hands, self.lets())

    def lot(self, name):
        return tuple(sorted(spread(set(self.holding()), self.kept[name])))

    def together(self):
        lots = {name: self.lot(name) for name in self.kept}
        return sorted(sorted(name for name in lots if lots[name] == lot) for lot in set(lots.values()))

    def apart(self, one, other):
        row = self.kept[other]
        broken = [(a, b) for a, b in bound_in(list(self.lot(one))) if row.index(b) < row.index(a)]
        return broken[0] if broken else None


def next_act(model, seed):
    """An act that can be done, picked here and there."""
    word = ("tell", "tell", "tell", "strike", "keep", "keep", "leave", "go", "go", "go")[picked((seed, "word"), 10)]
    lets, hands = lets_of(model.hands), list(model.hands)
    if word == "tell" and lets:
        return word, TELLERS[picked((seed, "teller"), 3)], lets[picked((seed, "let"), len(lets))]
    if word == "strike" and model.said:
        let, teller = sorted(model.said)[picked((seed, "said"), len(model.said))]
        return word, teller, let
    if word == "leave" and model.kept:
        return word, sorted(model.kept)[picked((seed, "name"), len(model.kept))]
    moves = [
        ("go", name, place)
        for name in sorted(model.kept)
        for place in range(len(hands) - 1)
        if wanted_let(model.kept[name], place) in model.holding()
    ]
    if word == "go" and moves:
        return moves[picked((seed, "move"), len(moves))]
    row = tuple(sorted(hands, key=lambda hand: picked((seed, hand), 10 ** 6)))
    return "keep", ROW_NAMES[picked((seed, "kept"), 3)], row


def done(lore, act):
    """Does an act."""
    return getattr(lore, act[0])(*act[1:])


class LoreCase(unittest.TestCase, Refusing):
    def like(self, lore, model):
        """All that a lore tells is as in a model."""
        self.assertEqual(lore.told(), model.told())
        self.assertEqual(lore.rows(), model.kept)
        self.assertEqual(lore.acts(), model.acts)
        self.assertEqual(lore.together(), model.together())
        holding = model.holding()
        self.assertEqual(lore.book(), Book(model.hands, holding))
        for let in lets_of(model.hands):
            self.assertIs(lore.holds(let), let in holding)
        for one in model.kept:
            for other in model.kept:
                self.assertEqual(lore.apart(one, other), model.apart(one, other))


class HistoryTest(LoreCase):
    def history(self, hands, seed, many):
        acts, model = [], Model(hands)
        for k in range(many):
            acts.append(next_act(model, (seed, k)))
            model = Model(hands, acts)
        return acts

    def test_behind_each_act_back_and_on(self):
        for hands, seeds in [(("ann",), 1), (("ann", "bob"), 2), (THREE, 6), (FOUR, 4)]:
            for seed in range(seeds):
                acts = self.history(hands, seed, 24)
                lore = Lore(list(hands))
                for k, act in enumerate(acts):
                    self.assertIsNone(done(lore, act))
                    self.like(lore, Model(hands, acts[:k + 1]))
                for k in reversed(range(len(acts))):
                    self.assertEqual(lore.back(), acts[k])
                    self.like(lore, Model(hands, acts[:k]))
                self.refused(NoMore, {"word": "back"}, lore.back)
                for k, act in enumerate(acts):
                    self.assertEqual(lore.on(), act)
                    self.like(lore, Model(hands, acts[:k + 1]))
                self.refused(NoMore, {"word": "on"}, lore.on)

    def test_a_new_act_lets_go_what_was_taken_back(self):
        for seed in range(6):
            acts = self.history(THREE, ("again", seed), 16)
            lore = Lore(THREE)
            for act in acts:
                done(lore, act)
            for count in (1, 5, 9, 16):
                for _ in range(count):
                    lore.back()
                for act in acts[16 - count:]:
                    done(lore, act)
                    self.refused(NoMore, {"word": "on"}, lore.on)
                self.like(lore, Model(THREE, acts))
            for _ in range(10):
                lore.back()
            lore.keep("new", THREE)
            self.like(lore, Model(THREE, acts[:6] + [("keep", "new", THREE)]))
            self.refused(NoMore, {"word": "on"}, lore.on)
            lore.back()
            self.like(lore, Model(THREE, acts[:6]))
            self.assertEqual(lore.on(), ("keep", "new", THREE))

    def test_a_refused_act_changes_nothing_and_lets_nothing_go(self):
        acts = [("tell", "tom", LET), ("keep", "left", THREE), ("go", "left", 0), ("tell", "sue", SIX[1])]
        lore = Lore(THREE)
        for act in acts:
            done(lore, act)
        for _ in range(2):
            lore.back()
        for error, call, *args in [
            (NoName, lore.tell, "Tom", LET),
            (NoLet, lore.tell, "tom", None),
            (NotTold, lore.strike, "sue", LET),
            (NoName, lore.keep, None, THREE),
            (NoRow, lore.keep, "left", FOUR),
            (NoKept, lore.leave, "right"),
            (NoKept, lore.go, "right", 0),
            (NoPlace, lore.go, "left", 2),
            (NotLet, lore.go, "left", 1),
            (NoKept, lore.apart, "left", "right"),
            (NoGround, lore.ground, SIX[3]),
            (NoLet, lore.ground, None),
        ]:
            self.refused(error, {}, call, *args)
            self.like(lore, Model(THREE, acts[:2]))
        self.assertEqual(lore.on(), acts[2])
        self.assertEqual(lore.on(), acts[3])
        self.like(lore, Model(THREE, acts))

    def test_of_eight_hands(self):
        lore = Lore(NAMES)
        for p, q in zip(NAMES, NAMES[1:]):
            lore.tell("tom", (p, q, tuple(hand for hand in NAMES if hand < p)))
        self.assertEqual(len(lore.book()), 7)
        lore.keep("left", NAMES)
        lore.go("left", 0)
        self.assertEqual(lore.rows()["left"], ("bob", "ann") + NAMES[2:])
        self.refused(NotLet, {"at": 0, "why": "let"}, lore.go, "left", 1)
        lore.go("left", 6)
        for let in lets_of(NAMES)[::5]:
            lore.tell("sue", let)
        self.assertIs(lore.holds(("gus", "hal", ())), True)
        self.assertIs(is_ground(Book(NAMES, [let for let, _ in lore.told()]), LET, lore.ground(LET)), True)


class ToldTest(LoreCase):
    def test_again_by_the_same_one_and_by_another_one(self):
        lore = Lore(THREE)
        lore.tell("tom", LET)
        self.assertEqual(lore.told(), [(LET, ("tom",))])
        lore.tell("tom", LET)
        self.assertEqual(lore.told(), [(LET, ("tom",))])
        lore.tell("amy", LET)
        self.assertEqual(lore.told(), [(LET, ("amy", "tom"))])
        self.assertEqual(lore.acts(), [("tell", "tom", LET), ("tell", "tom", LET), ("tell", "amy", LET)])
        lore.back()
        lore.back()
        self.assertEqual(lore.told(), [(LET, ("tom",))])
        lore.back()
        self.assertEqual(lore.told(), [])
        self.assertIs(lore.holds(LET), False)

    def test_struck_so_that_what_another_one_told_still_holds(self):
        lore = Lore(THREE)
        for teller in ("tom", "amy"):
            lore.tell(teller, LET)
        lore.strike("tom", LET)
        self.assertEqual(lore.told(), [(LET, ("amy",))])
        self.assertIs(lore.holds(LET), True)
        self.refused(NotTold, {"asked": ("tom", LET)}, lore.strike, "tom", LET)
        lore.strike("amy", LET)
        self.assertEqual(lore.told(), [])
        self.assertIs(lore.holds(LET), False)
        self.refused(NotTold, {"asked": ("amy", LET)}, lore.strike, "amy", LET)

    def test_what_follows_holds_as_long_as_what_it_goes_by(self):
        lore = Lore(THREE)
        for let in SIX[:3]:
            lore.tell("tom", let)
        self.assertEqual(lore.book(), Book(THREE, lets_of(THREE)))
        self.assertEqual(lore.ground(SIX[4]), [(THREE, (), 0)])
        self.assertEqual(lore.ground(SIX[0]), [])
        self.assertEqual(len(lore.told()), 3)
        lore.tell("amy", SIX[4])
        self.assertEqual(lore.ground(SIX[4]), [])
        lore.strike("tom", SIX[1])
        self.assertEqual(lore.book(), Book(THREE, [SIX[0], SIX[2], SIX[4]]))
        self.refused(NoGround, {"asked": SIX[1]}, lore.ground, SIX[1])

    def test_grounds_of_all_that_holds(self):
        for seed in range(5):
            lore, lets = Lore(FOUR), lets_of(FOUR)
            for k in range(9):
                lore.tell(TELLERS[k % 3], lets[picked((seed, k), len(lets))])
            told = Book(FOUR, [let for let, _ in lore.told()])
            for let in lets:
                if lore.holds(let):
                    self.assertIs(is_ground(told, let, lore.ground(let)), True)
                else:
                    self.refused(NoGround, {"asked": let}, lore.ground, let)

    def test_no_hands(self):
        for thing in NO_HANDS:
            with self.subTest(thing=thing):
                self.refused(NoHands, {"asked": thing}, Lore, thing)

    def test_no_name_ahead_of_no_let(self):
        lore = Lore(FOUR)
        for thing in NO_NAMES:
            with self.subTest(thing=thing):
                self.refused(NoName, {"asked": thing}, lore.tell, thing, LET)
                self.refused(NoName, {"asked": thing}, lore.tell, thing, None)
        for thing in NO_LETS:
            with self.subTest(thing=thing):
                self.refused(NoLet, {"asked": thing}, lore.tell, "tom", thing)
                self.refused(NoLet, {"asked": thing}, lore.ground, thing)
        self.assertEqual((lore.told(), lore.acts()), ([], []))

    def test_not_told(self):
        lore = Lore(FOUR)
        lore.tell("tom", LET)
        for thing in NO_NAMES:
            self.refused(NotTold, {"asked": (thing, LET)}, lore.strike, thing, LET)
        for thing in NO_LETS:
            self.refused(NotTold, {"asked": ("tom", thing)}, lore.strike, "tom", thing)
            self.refused(NotTold, {"asked": (thing, thing)}, lore.strike, thing, thing)
        for teller, let in [("amy", LET), ("tom", ("ann", "bob", ("cay",))), ("ann", LET)]:
            self.refused(NotTold, {"asked": (teller, let)}, lore.strike, teller, let)
        kept = ["tom", ["amy"]]
        with self.assertRaises(NotTold) as caught:
            lore.strike(kept, LET)
        caught.exception.asked[0][1].append("more")
        self.assertEqual(kept, ["tom", ["amy"]])

    def test_holds_of_anything(self):
        for lets in ([], lets_of(FOUR)):
            lore = Lore(FOUR)
            for let in lets:
                lore.tell("tom", let)
            for thing in NO_LETS:
                self.assertIs(lore.holds(thing), False)


class RowsTest(LoreCase):
    def test_kept_under_new_and_old_names_and_left(self):
        lore = Lore(THREE)
        self.assertEqual(lore.rows(), {})
        lore.keep("left", THREE)
        lore.keep("right", THREE)
        lore.keep("left", THREE[::-1])
        self.assertEqual(lore.rows(), {"left": THREE[::-1], "right": THREE})
        lore.leave("right")
        self.assertEqual(lore.rows(), {"left": THREE[::-1]})
        self.refused(NoKept, {"asked": "right"}, lore.leave, "right")
        lore.back()
        self.assertEqual(lore.rows(), {"left": THREE[::-1], "right": THREE})
        lore.back()
        self.assertEqual(lore.rows(), {"left": THREE, "right": THREE})

    def test_moved_by_what_holds_now(self):
        lore = Lore(THREE)
        lore.keep("left", THREE)
        self.refused(NotLet, {"at": 0, "why": "let"}, lore.go, "left", 0)
        for let in SIX[:3]:
            lore.tell("tom", let)
        # From here on the fourth let follows, which nobody told.
        for place in (0, 1, 0, 1, 0, 1):
            lore.go("left", place)
        self.assertEqual(lore.rows(), {"left": THREE})
        self.assertEqual(lore.acts()[-1], ("go", "left", 1))
        lore.strike("tom", SIX[2])
        lore.go("left", 0)
        lore.go("left", 1)
        self.refused(NotLet, {"at": 0, "why": "let"}, lore.go, "left", 0)
        self.assertEqual(lore.rows(), {"left": ("bob", "cay", "ann")})

    def test_apart_and_together(self):
        lore = Lore(THREE)
        for name, row in [("c", THREE), ("b", ("ann", "cay", "bob")), ("a", THREE[::-1]), ("d", THREE)]:
            lore.keep(name, row)
        self.assertEqual(lore.together(), [["a"], ["b"], ["c", "d"]])
        self.assertEqual(lore.apart("c", "a"), ("ann", "bob"))
        self.assertEqual(lore.apart("c", "b"), ("bob", "cay"))
        self.assertIsNone(lore.apart("c", "d"))
        self.assertIsNone(lore.apart("c", "c"))
        lore.tell("tom", ("bob", "cay", ("ann",)))
        self.assertEqual(lore.together(), [["a"], ["b", "c", "d"]])
        self.assertIsNone(lore.apart("b", "c"))
        self.assertEqual(lore.apart("b", "a"), ("ann", "bob"))
        for let in lets_of(THREE):
            lore.tell("tom", let)
        self.assertEqual(lore.together(), [["a", "b", "c", "d"]])
        self.assertEqual(Lore(THREE).together(), [])

    def test_no_name_ahead_of_no_row(self):
        lore = Lore(THREE)
        for thing in NO_NAMES:
            with self.subTest(thing=thing):
                self.refused(NoName, {"asked": thing}, lore.keep, thing, THREE)
                self.refused(NoName, {"asked": thing}, lore.keep, thing, None)
        for thing in NO_ROWS:
            with self.subTest(thing=thing):
                self.refused(NoRow, {"asked": thing}, lore.keep, "left", thing)
        self.assertEqual(lore.rows(), {})

    def test_no_kept_ahead_of_all_else(self):
        lore = Lore(THREE)
        lore.keep("left", THREE)
        for thing in NO_NAMES + ["right", "ann", "zoe", "lef"]:
            with self.subTest(thing=thing):
                self.refused(NoKept, {"asked": thing}, lore.leave, thing)
                self.refused(NoKept, {"asked": thing}, lore.go, thing, 0)
                self.refused(NoKept, {"asked": thing}, lore.go, thing, None)
                self.refused(NoKept, {"asked": thing}, lore.apart, thing, "left")
                self.refused(NoKept, {"asked": thing}, lore.apart, "left", thing)
                self.refused(NoKept, {"asked": thing}, lore.apart, thing, "neither")

    def test_no_place_ahead_of_not_let(self):
        lore = Lore(THREE)
        lore.keep("left", THREE)
        for thing in NOTHINGS + [2, 3, -1, -2, True, False, "0", (0,), [0], None, 10 ** 29]:
            with self.subTest(thing=thing):
                self.refused(NoPlace, {"asked": thing}, lore.go, "left", thing)
        for place in (0, 1):
            self.refused(NotLet, {"at": 0, "why": "let"}, lore.go, "left", place)
        one = Lore(["ann"])
        one.keep("left", ("ann",))
        self.refused(NoPlace, {"asked": 0}, one.go, "left", 0)


class OwnTest(LoreCase):
    def lore(self):
        lore = Lore(THREE)
        lore.tell("tom", LET)
        lore.keep("left", THREE)
        lore.keep("right", THREE)
        return lore

    def test_what_is_told_is_the_askers_own(self):
        lore, same = self.lore(), self.lore()
        for told in (lore.told(), lore.acts(), lore.rows(), lore.together(), lore.together()[0], lore.ground(LET)):
            told.clear()
        for told in (lore.told(), lore.acts(), lore.ground(LET), *lore.together()):
            told.append("more")
        lore.rows()["more"] = None
        self.like(lore, Model(THREE, same.acts()))
        self.assertEqual(lore, same)
        self.assertIsNot(lore.book(), lore.book())

    def test_what_is_kept_is_a_copy(self):
        hands = list(THREE)
        lore = Lore(hands)
        hands.append("dan")
        self.assertEqual(lore, Lore(THREE))
        lore.keep("left", THREE)
        self.assertEqual(lore.rows(), {"left": THREE})

    def test_equal_just_where_hands_and_acts_are(self):
        lore = self.lore()
        self.assertEqual(Lore(["cay", "ann", "bob"]), Lore(THREE))
        self.assertNotEqual(Lore(FOUR), Lore(THREE))
        self.assertEqual(lore, self.lore())
        self.assertFalse(lore != self.lore())
        self.assertNotEqual(lore, Lore(THREE))
        other = self.lore()
        other.tell("tom", LET)
        # What is told is alike, the acts are not.
        self.assertEqual(other.told(), lore.told())
        self.assertNotEqual(lore, other)
        other.back()
        # What was taken back is no matter.
        self.assertEqual(lore, other)
        other.back()
        self.assertNotEqual(lore, other)
        other.keep("right", THREE[::-1])
        self.assertNotEqual(lore, other)
        swapped = Lore(THREE)
        for act in [("keep", "left", THREE), ("tell", "tom", LET), ("keep", "right", THREE)]:
            done(swapped, act)
        self.assertEqual((swapped.told(), swapped.rows()), (lore.told(), lore.rows()))
        self.assertNotEqual(lore, swapped)

    def test_equal_to_nothing_else(self):
        lore = self.lore()
        worths = Worths(["ann"], {(): 0, ("ann",): 0})
        for thing in NOTHINGS + [THREE, lore.acts(), lore.book(), worths, object()]:
            self.assertIs(lore == thing, False)
            self.assertIs(thing == lore, False)
            self.assertIs(lore != thing, True)

    def test_by_names(self):
        lore = Lore(hands=THREE)
        lore.tell(let=LET, teller="tom")
        lore.tell(teller="amy", let=LET)
        lore.strike(let=LET, teller="amy")
        lore.keep(row=THREE, name="left")
        lore.keep(name="right", row=THREE)
        lore.go(place=0, name="left")
        lore.leave(name="right")
        self.assertIs(lore.holds(thing=LET), True)
        self.assertEqual(lore.ground(let=LET), [])
        self.assertIsNone(lore.apart(other="left", one="left"))
        self.assertEqual(lore.acts(), [
            ("tell", "tom", LET),
            ("tell", "amy", LET),
            ("strike", "amy", LET),
            ("keep", "left", THREE),
            ("keep", "right", THREE),
            ("go", "left", 0),
            ("leave", "right"),
        ])


if __name__ == "__main__":
    unittest.main()
