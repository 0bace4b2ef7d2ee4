"""The looker over lots: whether the rows that keep a web are one, by the web's heads alone."""

from aheadbook.heads import free_behind, heads
from aheadbook.kinds import united
from aheadbook.makers import by_web
from aheadbook.webs import is_web, ties


def is_lot(book, thing):
    """Whether it is a web by which the book lets what is free, and lets no tie be turned."""
    hands = book.hands()
    if not is_web(hands, thing):
        return False
    if not all([book.has(let) for let in by_web(hands, thing).lets()]):
        return False
    return not any([book.has(let) for let in tied_lets(hands, thing)])


def tied_lets(hands, web):
    """The lets that would turn a tie, behind each head behind which the two of it can come next, in turn."""
    free = {head: free_behind(hands, web, head) for head in heads(hands, web)}
    lets = []
    for p, q in ties(hands, web):
        for head in free:
            if p in free[head] and q in free[united(head, (p,))]:
                lets.append((min(p, q), max(p, q), head))
    return lets
