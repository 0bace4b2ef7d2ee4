"""Books made of pairs, of counts, of those between, and of a web."""

from aheadbook.books import Book
from aheadbook.heads import free_behind, heads
from aheadbook.kinds import check_hands, twos_of
from aheadbook.lets import every_let


def by_pairs(hands, pairs):
    """The book with all lets of these pairs, either hand first."""
    return Book(hands, [(p, q, ahead) for p, q, ahead in every_let(hands) if (p, q) in pairs or (q, p) in pairs])


def by_counts(hands, counts):
    """The book with all lets that have one of these numbers of hands ahead."""
    return Book(hands, [(p, q, ahead) for p, q, ahead in every_let(hands) if len(ahead) in counts])


def by_between(hands, ahead, behind, *, both=False):
    """The book of lets where enough of the hands between the two stand ahead, or enough behind; or both."""
    lets = []
    for let in every_let(hands):
        p, q, members = let
        between = [hand for hand in hands if p < hand < q]
        inside = len([hand for hand in between if hand in members])
        first = reaches(inside, ahead)
        second = reaches(len(between) - inside, behind)
        if (first and second) or (not both and (first or second)):
            lets.append(let)
    return Book(hands, lets)


def reaches(count, least):
    """Whether there are at least so many; None is never reached."""
    return least is not None and count >= least


def by_web(hands, web):
    """The book of lets behind a head of the web, of two that can both come next."""
    check_hands(hands)
    lets = []
    for head in heads(hands, web):
        lets.extend([(p, q, head) for p, q in twos_of(free_behind(hands, web, head))])
    return Book(hands, lets)
