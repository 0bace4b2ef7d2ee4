"""Heads of a web: the sets that can stand ahead, and the hands that can come next."""

from aheadbook.errors import NoHead
from aheadbook.kinds import copied, is_set, sets_of
from aheadbook.webs import check_web


def heads(hands, web):
    """All heads of the web, rising."""
    check_web(hands, web)
    return [members for members in sets_of(hands) if has_all_ahead(web, members)]


def nexts(hands, web, head):
    """The hands that can come next behind this head, rising."""
    check_web(hands, web)
    if not is_set(hands, head) or not has_all_ahead(web, head):
        raise NoHead(copied(head))
    return free_behind(hands, web, head)


def has_all_ahead(web, members):
    """Whether, with each hand, all that stand ahead of it are among these."""
    return all([a in members for a, b in web if b in members])


def free_behind(hands, web, head):
    """The hands not in the head of which all that stand ahead are in it, rising."""
    held_back = {b: True for a, b in web if a not in head}
    return sorted([hand for hand in hands if hand not in head and hand not in held_back])
