"""Lores: lets are told and struck while rows move by what follows from them; acts can be taken back."""

from aheadbook.books import book_by, made_book
from aheadbook.errors import NoKept, NoLet, NoMore, NoName, NotLet, NotTold
from aheadbook.fairlots import first_broken, web_of
from aheadbook.grounds import ground, least_fair
from aheadbook.kinds import check_hands, copied, is_hand
from aheadbook.lets import is_let
from aheadbook.rows import check_place, check_row, exchanged, wanted


class Lore:
    """Hands, lets told by tellers, and rows kept by names."""

    def __init__(self, hands):
        check_hands(hands)
        self._hands = tuple(sorted(hands))
        self._tellers = {}
        self._kept = {}
        # Each act changes what is told of one let, or the row of one name: a step is the act, the let
        # or name, and what stood and then stands there, None for nothing. Those taken back stand last.
        self._steps = []
        self._done = 0
        # The least fair book that has all told lets; None until it is asked for.
        self._fair = None

    def __eq__(self, other):
        return isinstance(other, Lore) and self._hands == other._hands and self.acts() == other.acts()

    def tell(self, teller, let):
        """The teller tells the let."""
        if not is_hand(teller):
            raise NoName(copied(teller))
        if not is_let(self._hands, let):
            raise NoLet(copied(let))
        earlier = self._tellers.get(let, ())
        later = earlier if teller in earlier else tuple(sorted(earlier + (teller,)))
        self._act(("tell", teller, let), let, self._tellers.get(let), later)

    def strike(self, teller, let):
        """The teller tells the let no more."""
        if not is_hand(teller) or not is_let(self._hands, let) or teller not in self._tellers.get(let, ()):
            raise NotTold((copied(teller), copied(let)))
        earlier = self._tellers[let]
        left = tuple([other for other in earlier if other != teller])
        self._act(("strike", teller, let), let, earlier, left if left else None)

    def told(self):
        """All told lets, each with its tellers, rising."""
        return sorted([(let, self._tellers[let]) for let in self._tellers])

    def holds(self, thing):
        """Whether it is a let that is told, or follows from what is told."""
        return self._fair_now().has(thing)

    def book(self):
        """The book of all that holds."""
        return book_by(self._hands, self._fair_now().table())

    def ground(self, let):
        """A ground of the let by what is told."""
        return ground(made_book(self._hands, list(self._tellers)), let)

    def keep(self, name, row):
        """Keeps the row under the name."""
        if not is_hand(name):
            raise NoName(copied(name))
        check_row(self._hands, row)
        self._act(("keep", name, row), name, self._kept.get(name), row)

    def leave(self, name):
        """Keeps the name's row no more."""
        self._act(("leave", name), name, self._row_of(name), None)

    def go(self, name, place):
        """Moves the name's row by the change at the place."""
        row = self._row_of(name)
        check_place(row, place)
        if not self.holds(wanted(row, place)):
            raise NotLet(0, "let")
        self._act(("go", name, place), name, row, exchanged(row, place))

    def rows(self):
        """All kept rows, by their names."""
        return {name: self._kept[name] for name in sorted(self._kept)}

    def apart(self, one, other):
        """The pair that parts the rows of two names; None where they are of one lot."""
        first = self._row_of(one)
        second = self._row_of(other)
        return first_broken(web_of(self._fair_now(), first), second)

    def together(self):
        """All names by the lots of their rows."""
        lots = {}
        # The names rise: so do those of each lot, and the lots by their first ones.
        for name in sorted(self._kept):
            lots.setdefault(web_of(self._fair_now(), self._kept[name]), []).append(name)
        return [lots[web] for web in lots]

    def acts(self):
        """All acts that are done, in order."""
        return [step[0] for step in self._steps[:self._done]]

    def back(self):
        """Takes the last act back."""
        if self._done == 0:
            raise NoMore("back")
        self._done = self._done - 1
        act, key, earlier, _ = self._steps[self._done]
        self._put(act, key, earlier)
        return act

    def on(self):
        """Does the act again that was taken back last."""
        if self._done == len(self._steps):
            raise NoMore("on")
        act, key, _, later = self._steps[self._done]
        self._done = self._done + 1
        self._put(act, key, later)
        return act

    def _act(self, act, key, earlier, later):
        del self._steps[self._done:]
        self._steps.append((act, key, earlier, later))
        self.on()

    def _put(self, act, key, thing):
        if act[0] in ("tell", "strike"):
            put_in(self._tellers, key, thing)
            self._fair = None
        else:
            put_in(self._kept, key, thing)

    def _fair_now(self):
        if self._fair is None:
            self._fair = least_fair(made_book(self._hands, list(self._tellers)))
        return self._fair

    def _row_of(self, name):
        if not is_hand(name) or name not in self._kept:
            raise NoKept(copied(name))
        return self._kept[name]


def put_in(table, key, thing):
    """Has the key stand for the thing, or for nothing where it is None."""
    if thing is None:
        table.pop(key, None)
    else:
        table[key] = thing
