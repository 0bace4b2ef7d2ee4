"""Of anything: whether it is a whole number, a hand, hands, or a set of hands."""

from aheadbook.bounds import MOST_HANDS, MOST_LETTERS
from aheadbook.errors import NoHands


def copied(thing):
    """The same thing, sharing no list and no dict with it."""
    if isinstance(thing, list):
        return [copied(part) for part in thing]
    if isinstance(thing, tuple):
        return tuple([copied(part) for part in thing])
    if isinstance(thing, dict):
        return {key: copied(thing[key]) for key in thing}
    return thing


def is_number(thing):
    """Whether it is a whole number: True and False are none."""
    return isinstance(thing, int) and not isinstance(thing, bool)


def is_hand(thing):
    """Whether it is a name: one to eight small letters."""
    if not isinstance(thing, str) or not 1 <= len(thing) <= MOST_LETTERS:
        return False
    return all(["a" <= sign <= "z" for sign in thing])


def are_hands(thing):
    """Whether it is a list or tuple of one to eight unlike hands."""
    if not isinstance(thing, (list, tuple)) or not 1 <= len(thing) <= MOST_HANDS:
        return False
    # The names come first: what is no name need not be fit for a set.
    if not all([is_hand(part) for part in thing]):
        return False
    return len(set(thing)) == len(thing)


def check_hands(thing):
    """Refuses what are no hands."""
    if not are_hands(thing):
        raise NoHands(copied(thing))


def is_set(hands, thing):
    """Whether it is a set of these hands: a tuple of unlike ones, rising."""
    if not isinstance(thing, tuple):
        return False
    return all([hand in hands for hand in thing]) and is_rising(thing)


def is_rising(things):
    """Whether each is less than the next one, and so none there twice."""
    return all([things[k - 1] < things[k] for k in range(1, len(things))])


def sets_of(hands):
    """All sets of these hands, rising."""
    return sorted(sets_at(hands))


def sets_at(hands):
    """All sets of these hands, each at the number that has a one for each hand in it, the least hand's lowest."""
    found = [()]
    for hand in sorted(hands):
        found = found + [members + (hand,) for members in found]
    return found


def rest_of(hands, members):
    """The hands that are not among these members."""
    return [hand for hand in hands if hand not in members]


def united(one, other):
    """The set of all hands of two sets without a like one."""
    return tuple(sorted(one + other))


def twos_of(hands):
    """All tuples of two of these hands, the lesser first, rising."""
    ordered = sorted(hands)
    return [(ordered[j], ordered[k]) for j in range(len(ordered)) for k in range(j + 1, len(ordered))]
