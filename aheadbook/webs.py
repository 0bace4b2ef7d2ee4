"""Webs: pairs of hands by which the one stands ahead of the other, with all that follows."""

from aheadbook.errors import Knot, NoWeb
from aheadbook.kinds import copied, is_rising


def is_web(hands, thing):
    """Whether it is a web of these hands: pairs, rising, with all that follows, none both ways about."""
    if not isinstance(thing, tuple) or not all([is_pair(hands, pair) for pair in thing]):
        return False
    if not is_rising(thing):
        return False
    held = {pair: True for pair in thing}
    # No pair of one hand is ever held: so none stands both ways about where all that follows is held.
    return all([(a, c) in held for a, b in thing for other, c in thing if other == b])


def is_pair(hands, thing):
    """Whether it is a tuple of two unlike ones of these hands."""
    if not isinstance(thing, tuple) or len(thing) != 2:
        return False
    a, b = thing
    return a in hands and b in hands and a != b


def check_web(hands, web):
    """Refuses what is no web of these hands."""
    if not is_web(hands, web):
        raise NoWeb(copied(web))


def closed(hands, pairs):
    """The least web that has all these pairs."""
    knotted = knotted_hands(hands, pairs)
    if knotted:
        raise Knot(circle_of(knotted, pairs))
    held = {pair: True for pair in pairs}
    for b in hands:
        before = [a for a in hands if (a, b) in held]
        behind = [c for c in hands if (b, c) in held]
        for a in before:
            for c in behind:
                held[(a, c)] = True
    return tuple(sorted(held))


def knotted_hands(hands, pairs):
    """What is left of the hands when those with none of the rest told ahead of them are taken off, and so on."""
    left = sorted(hands)
    # A turn that takes off no hand changes nothing more: as many turns as hands are enough.
    for _ in range(len(left)):
        left = [b for b in left if told_ahead(left, pairs, b)]
    return left


def told_ahead(hands, pairs, hand):
    """Those of these hands that are told ahead of this one."""
    return [a for a in hands if (a, hand) in pairs]


def circle_of(knotted, pairs):
    """Hands each told ahead of the next one, the last ahead of the first."""
    walk = [knotted[0]]
    earlier = told_ahead(knotted, pairs, walk[-1])[0]
    while earlier not in walk:
        walk.append(earlier)
        earlier = told_ahead(knotted, pairs, walk[-1])[0]
    # The walk goes from each hand to one ahead of it: the circle is read the other way.
    return tuple(reversed(walk[walk.index(earlier):]))


def keeps(web, row):
    """Whether in the row the first hand of each pair stands ahead of the second."""
    check_web(row, web)
    return all([row.index(a) < row.index(b) for a, b in web])


def ties(hands, web):
    """The pairs of the web with no hand between, rising."""
    check_web(hands, web)
    return [(a, b) for a, b in web if not [c for c in hands if (a, c) in web and (c, b) in web]]
