"""Probes: the fewest places at which a thing tells apart all wordings that it tells apart anywhere."""

from keptmeanings.checks import check_thing, check_wording, is_place, is_wording
from keptmeanings.errors import BadPlaces, TooLarge
from keptmeanings.meanings import Meanings
from keptmeanings.plans import check_plan

MOST_PLACES = 8


class Probes:
    """As few places as possible, and for all tuples of one fewer a pair of wordings that these do not part."""

    def __init__(self, places, against):
        self.places = list(places)
        self.against = {some: against[some] for some in against}

    def shows(self, plan, thing):
        """Whether the places are probes of the thing, and the pairs show that there are none with fewer places."""
        known = known_places(plan, thing)
        if not are_places(plan, self.places, known) or not is_in_order(self.places):
            return False
        if not all([isinstance(some, tuple) and are_places(plan, some, known) for some in self.against]):
            return False
        fewer = tuples_of(known, len(self.places) - 1)
        if sorted(list(self.against)) != fewer:
            return False
        splits = splits_of(plan, thing, known)
        if first_unparted(splits, self.places) is not None:
            return False
        return all([stands_against(plan, splits, some, self.against[some]) for some in fewer])

    def __eq__(self, other):
        return isinstance(other, Probes) and self.places == other.places and self.against == other.against


def reach(plan):
    """The list of the wordings within reach, in order."""
    check_plan(plan)
    fixed = [k for k in range(len(plan.book)) if k not in plan.free]
    return [wording for wording in plan.book.wordings() if all([wording[k] == 0 for k in fixed])]


def places(plan, thing):
    """The ascending list of the places of a thing."""
    check_plan(plan)
    check_thing(plan, thing)
    pairs = [(row, asker) for row in plan.rows() for asker in plan.askers]
    columns = numbers_at(plan, thing, pairs, reach(plan))
    first = columns[0]
    return [pair for at, pair in enumerate(pairs) if any([numbers[at] != first[at] for numbers in columns])]


def parted(plan, thing, some, one, other):
    """Whether some places part two wordings."""
    known = places(plan, thing)
    if not isinstance(some, (list, tuple)) or not are_places(plan, some, known):
        raise BadPlaces("not a list or tuple of places of the thing")
    check_wording(plan.book, one)
    check_wording(plan.book, other)
    by_one, by_other = numbers_at(plan, thing, some, [one, other])
    return by_one != by_other


def probes(plan, thing):
    """The Probes of a thing."""
    known = known_places(plan, thing)
    splits = splits_of(plan, thing, known)
    many = 0
    # This ends at the latest with all places, which part whatever all places part.
    while parting_tuples(splits, known, many) == []:
        many += 1
    against = {some: first_unparted(splits, some) for some in tuples_of(known, many - 1)}
    return Probes(parting_tuples(splits, known, many)[0], against)


def known_places(plan, thing):
    """The places of a thing; raise TooLarge if there are more than are looked at."""
    known = places(plan, thing)
    if len(known) > MOST_PLACES:
        raise TooLarge("the thing has more than eight places")
    return known


def numbers_at(plan, thing, pairs, wordings):
    """For each wording, the list of the plain numbers of a thing at pairs of a row and an asker."""
    meanings = Meanings(plan)
    return [[meanings.plain(wording, asker, row)[thing] for row, asker in pairs] for wording in wordings]


def splits_of(plan, thing, known):
    """Triples of two wordings within reach, in order, that all places part, and of the list of the places that do."""
    wordings = reach(plan)
    columns = numbers_at(plan, thing, known, wordings)
    splits = []
    for one, by_one in zip(wordings, columns):
        for other, by_other in zip(wordings, columns):
            parting = [place for at, place in enumerate(known) if by_one[at] != by_other[at]]
            if one < other and parting != []:
                splits.append((one, other, parting))
    return splits


def is_parted(some, parting):
    """Whether one of some places is one of those that part."""
    return any([place in parting for place in some])


def first_unparted(splits, some):
    """The first pair of wordings that some places do not part, though all places do; None if there is none."""
    unparted = [(one, other) for one, other, parting in splits if not is_parted(some, parting)]
    return unparted[0] if unparted != [] else None


def parting_tuples(splits, known, many):
    """The list of the tuples of so many places that part whatever all places part."""
    return [some for some in tuples_of(known, many) if first_unparted(splits, some) is None]


def tuples_of(known, many):
    """The list of all ascending tuples of so many of the places, in order; there is none of fewer than no places."""
    found = [((), 0)] if many >= 0 else []
    for _ in range(many):
        found = [(some + (known[at],), at + 1) for some, start in found for at in range(start, len(known))]
    return [some for some, _ in found]


def are_places(plan, some, known):
    """Whether all items of a list, tuple or dict are among the known places; the items may be of any kind."""
    # A place with a boolean in it would be equal to a known one.
    return all([is_place(plan, place) and place in known for place in some])


def is_in_order(some):
    """Whether the places of a list are ascending."""
    return all([one < other for one, other in zip(some, some[1:])])


def stands_against(plan, splits, some, pair):
    """Whether a value is a pair of wordings within reach that all places part, but some places do not."""
    if not isinstance(pair, tuple) or len(pair) != 2 or not all([is_wording(plan.book, one) for one in pair]):
        return False
    unparted = [(one, other) for one, other, parting in splits if not is_parted(some, parting)]
    return pair in unparted or pair[::-1] in unparted
