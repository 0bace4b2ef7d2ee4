"""The refusals of the program, each made of its fields, in their order."""


class NoHands(ValueError):
    """What was handed in is no list or tuple of one to eight unlike hands."""

    def __init__(self, asked):
        self.asked = asked


class NoRow(ValueError):
    """What was asked is no row, or a row of other hands."""

    def __init__(self, asked):
        self.asked = asked


class NoLet(ValueError):
    """What was asked is no let of the hands."""

    def __init__(self, asked):
        self.asked = asked


class NoWeb(ValueError):
    """What was asked is no web of the hands."""

    def __init__(self, asked):
        self.asked = asked


class NoRing(ValueError):
    """What was asked are no three hands and set of others."""

    def __init__(self, asked):
        self.asked = asked


class NoBreach(ValueError):
    """What was asked is no breach of the book."""

    def __init__(self, asked):
        self.asked = asked


class NoNames(ValueError):
    """What was handed in gives not each hand a name of its own."""

    def __init__(self, asked):
        self.asked = asked


class NoName(ValueError):
    """What was asked is no name."""

    def __init__(self, asked):
        self.asked = asked


class BadWorths(ValueError):
    """The first set without a worth that it can have, or None."""

    def __init__(self, asked):
        self.asked = asked


class NoText(ValueError):
    """A text is no book's; row is the number of its first wrong row."""

    def __init__(self, row):
        self.row = row


class Knot(ValueError):
    """Hands of which each is told ahead of the next one, the last ahead of the first."""

    def __init__(self, circle):
        self.circle = circle


class Unlike(ValueError):
    """Two things want the same hands, or want hands without a like one."""


class Twice(ValueError):
    """The places of two webs that some row keeps both."""

    def __init__(self, first, second):
        self.first = first
        self.second = second


class Lacking(ValueError):
    """How many rows keep none of the webs."""

    def __init__(self, number):
        self.number = number


class Torn(ValueError):
    """A let that leads some rows within a web, and others out of one."""

    def __init__(self, let):
        self.let = let


class NoHand(KeyError):
    """What was asked is none of the hands."""

    def __init__(self, asked):
        self.asked = asked


class NoHead(KeyError):
    """What was asked is no head, or no set of the hands."""

    def __init__(self, asked):
        self.asked = asked


class NoKept(KeyError):
    """No row is kept under what was asked."""

    def __init__(self, asked):
        self.asked = asked


class NoPlace(IndexError):
    """What was asked is no place of the row."""

    def __init__(self, asked):
        self.asked = asked


class NoNumber(IndexError):
    """What was asked numbers nothing."""

    def __init__(self, asked):
        self.asked = asked


class Parted(LookupError):
    """Two rows are not of one lot: the pair parts them."""

    def __init__(self, pair):
        self.pair = pair


class NoGround(LookupError):
    """The let that was asked has no ground."""

    def __init__(self, asked):
        self.asked = asked


class NotTold(LookupError):
    """The let is not told by the teller."""

    def __init__(self, asked):
        self.asked = asked


class NoMore(LookupError):
    """Nothing is left to take back, or to do again."""

    def __init__(self, word):
        self.word = word


class Unfair(ArithmeticError):
    """The book is not fair: the breach shows it."""

    def __init__(self, breach):
        self.breach = breach


class NotFalling(ArithmeticError):
    """The worths are not falling: the let rises."""

    def __init__(self, let):
        self.let = let


class NotPaid(ArithmeticError):
    """No order, or no mixture, pays so: the bar shows it."""

    def __init__(self, bar):
        self.bar = bar


class NotLet(RuntimeError):
    """The change number at of a way can't be: no such place, or the let is lacked."""

    def __init__(self, at, why):
        self.at = at
        self.why = why
