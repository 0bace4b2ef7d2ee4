"""Lets: two hands, and the set that stands ahead of both when they may change places."""

from aheadbook.kinds import check_hands, is_set, rest_of, sets_of, twos_of


def is_let(hands, thing):
    """Whether it is a let of these hands: a tuple (p, q, K), p the lesser, K a set of others."""
    if not isinstance(thing, tuple) or len(thing) != 3:
        return False
    p, q, ahead = thing
    # Both are hands before they are compared: other things may have no order.
    if p not in hands or q not in hands or not p < q:
        return False
    return is_set(hands, ahead) and p not in ahead and q not in ahead


def every_let(hands):
    """All lets of these hands, each once, rising."""
    check_hands(hands)
    lets = []
    for p, q in twos_of(hands):
        lets.extend([(p, q, ahead) for ahead in sets_of(rest_of(hands, (p, q)))])
    return lets
