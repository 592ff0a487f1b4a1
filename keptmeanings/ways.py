"""Ways: all that comes about from a first one by deeds, and how it comes about soonest."""

from keptmeanings.errors import TooLarge


def ways_from(first, steps, most):
    """A dict from all that comes about, soonest first, to pairs of the one before and the deed that led there.

    For the first one, it is None. The function steps tells of each one the pairs of a deed and the one after it.
    Raise TooLarge if more than so many come about.
    """
    found = [first]
    ways = {first: None}
    at = 0
    while at < len(found):
        one = found[at]
        for deed, following in steps(one):
            if following not in ways:
                ways[following] = (one, deed)
                found.append(following)
        if len(found) > most:
            raise TooLarge("more comes about than is looked at")
        at += 1
    return ways


def deeds_to(ways, one):
    """The list of the deeds that led to this one, by the pairs that ways has."""
    found = []
    while ways[one] is not None:
        one, deed = ways[one]
        found.append(deed)
    return found[::-1]
