"""What shapes and schemas share: links that begin at one level and never lead in a circle."""

from raggedtotals.errors import InvalidLinks
from raggedtotals.names import is_link


def bad_link(links):
    """The index of the first element that is not a link or came before; None if there is none."""
    seen = {}
    for index, link in enumerate(links):
        if not is_link(link) or link in seen:
            return index
        seen[link] = True
    return None


def reached(level, links):
    """The ascending tuple of the levels that links lead to from this level, itself included."""
    uppers = {}
    for lower, upper in links:
        uppers.setdefault(lower, []).append(upper)
    found = {level: True}
    waiting = [level]
    while waiting:
        lower = waiting.pop()
        for upper in uppers.get(lower, []):
            if upper not in found:
                found[upper] = True
                waiting.append(upper)
    return tuple(sorted(found))


def has_circle(links):
    """Whether some of these links lead in a circle."""
    left = links
    while left:
        lowers = {link[0]: True for link in left}
        # A link is in no circle if no link goes on from its upper end.
        kept = [link for link in left if link[1] in lowers]
        if len(kept) == len(left):
            return True
        left = kept
    return False


def levels_from(level, links):
    """The levels that these links lead to from this level, or InvalidLinks if they are not as required."""
    index = bad_link(links)
    if index is not None:
        raise InvalidLinks(index)
    levels = reached(level, links)
    if has_circle(links) or any([link[0] not in levels for link in links]):
        raise InvalidLinks(None)
    return levels
