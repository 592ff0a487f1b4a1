"""There once: whether no two rows ever mean the same by a thing of which no two rows keep the same."""

from keptmeanings.checks import check_thing, is_among, is_wording
from keptmeanings.errors import BadCouple, BadDeed, BadThing
from keptmeanings.meanings import Meanings
from keptmeanings.plans import check_plan
from keptmeanings.rows import MOST_DEEDS, builds_of, is_held, puts_of
from keptmeanings.ways import deeds_to, ways_from

MOST_COUPLES = 400


class Once:
    """That all is well: a list of couples that no deed leads out of, without twins, and without rows barred wrongly."""

    def __init__(self, couples):
        self.couples = list(couples)

    def shows(self, plan, thing):
        """Whether the couples are such a list for the thing."""
        check_once(plan, thing)
        if not all([is_couple(plan, couple) for couple in self.couples]):
            return False
        listed = {couple: True for couple in self.couples}
        if first_couple(plan) not in listed:
            return False
        meanings = Meanings(plan)
        for couple in listed:
            if has_twins(meanings, thing, couple) or wrong_bars(meanings, thing, couple) != []:
                return False
            if not all([following in listed for _, following in steps_of(meanings, thing, couple)]):
                return False
        return True

    def __eq__(self, other):
        return isinstance(other, Once) and self.couples == other.couples


class Twice:
    """That all is not well: a history, and "twins" for what is there after it, or "barred" for what ends it."""

    def __init__(self, history, word):
        self.history = list(history)
        self.word = word

    def shows(self, plan, thing):
        """Whether the history leads to twins, or its last deed bars a row wrongly, as the word says."""
        check_once(plan, thing)
        if not 1 <= len(self.history) <= MOST_DEEDS:
            return False
        meanings = Meanings(plan)
        before, couple = None, first_couple(plan)
        for deed in self.history:
            if not is_among(deed, deeds_of_couple(plan, couple)):
                return False
            before, couple = couple, after_deed(meanings, thing, couple, deed)
        if self.word == "twins":
            return has_twins(meanings, thing, couple)
        return self.word == "barred" and self.history[-1] in wrong_bars(meanings, thing, before)

    def __eq__(self, other):
        return isinstance(other, Twice) and self.history == other.history and self.word == other.word


def first_couple(plan):
    """The first couple: the first wording, and no rows."""
    check_plan(plan)
    return ((0,) * len(plan.book), None, None)


def couple_deeds(plan, couple):
    """The list of the deeds of a couple, in order."""
    check_plan(plan)
    check_couple(plan, couple)
    return deeds_of_couple(plan, couple)


def couple_after(plan, thing, couple, deed):
    """The couple after a deed, where the thing may be there once."""
    check_once(plan, thing)
    check_couple(plan, couple)
    if not is_among(deed, deeds_of_couple(plan, couple)):
        raise BadDeed("not a deed of the couple")
    return after_deed(Meanings(plan), thing, couple, deed)


def once(plan, thing):
    """A Once, or a Twice with a history of as few deeds as possible."""
    check_once(plan, thing)
    meanings = Meanings(plan)
    ways = ways_from(first_couple(plan), lambda couple: steps_of(meanings, thing, couple), MOST_COUPLES)
    # The couples stand in the order of how soon they come about, so the first ones of both kinds are soonest ones.
    twins = [couple for couple in ways if has_twins(meanings, thing, couple)][:1]
    barring = [couple for couple in ways if wrong_bars(meanings, thing, couple) != []][:1]
    found = [Twice(deeds_to(ways, couple), "twins") for couple in twins]
    found += [Twice(deeds_to(ways, couple) + wrong_bars(meanings, thing, couple)[:1], "barred") for couple in barring]
    return min(found, key=lambda twice: len(twice.history)) if found != [] else Once(list(ways))


def first_twice(plan, thing):
    """The least number of deeds after which there are twins, or a row is barred wrongly; None if that never is."""
    told = once(plan, thing)
    return len(told.history) if isinstance(told, Twice) else None


def deeds_of_couple(plan, couple):
    """The list of the deeds of a couple, in order, of a plan and a couple that are none to doubt."""
    found = puts_of(plan) + builds_of(plan)
    for side in (0, 1):
        if couple[side + 1] is not None:
            found.append(("take", side))
        else:
            found.extend([("write", side, row, writer) for row in plan.rows() for writer in plan.writers])
    return found


def after_deed(meanings, thing, couple, deed):
    """The couple after one of its deeds."""
    wording, one, other = couple
    if deed[0] == "put":
        return (meanings.plan.book.put(wording, deed[1], deed[2]), one, other)
    if deed[0] == "build":
        built = [meanings.built(wording, deed[2], held, deed[1]) for held in (one, other)]
        if None not in built and built[0][1][thing] == built[1][1][thing]:
            return couple
        return (wording, built[0], built[1])
    if deed[0] == "take":
        return with_side(couple, deed[1], None)
    if is_barred(meanings, thing, couple, deed):
        return couple
    _, side, row, writer = deed
    return with_side(couple, side, meanings.written(wording, writer, row))


def with_side(couple, side, held):
    """The couple in which this, perhaps None, is there on a side."""
    wording, one, other = couple
    return (wording, held, other) if side == 0 else (wording, one, held)


def is_barred(meanings, thing, couple, deed):
    """Whether the row of a deed that writes passes, but the one on the other side keeps what it would keep."""
    _, side, row, writer = deed
    held = couple[2 - side]
    if held is None or not meanings.passes(couple[0], writer, row):
        return False
    return held[1][thing] == meanings.plain(couple[0], writer, row)[thing]


def wrong_bars(meanings, thing, couple):
    """The list of the deeds of a couple that bar a row wrongly."""
    found = []
    for deed in deeds_of_couple(meanings.plan, couple):
        if deed[0] == "write" and is_barred(meanings, thing, couple, deed):
            _, side, row, writer = deed
            if not means_same(meanings, thing, couple[0], writer, row, couple[2 - side][0]):
                found.append(deed)
    return found


def has_twins(meanings, thing, couple):
    """Whether two rows are there that mean the same by the thing for some asker."""
    wording, one, other = couple
    if one is None or other is None:
        return False
    return any([means_same(meanings, thing, wording, asker, one[0], other[0]) for asker in meanings.plan.askers])


def means_same(meanings, thing, wording, setting, row, other):
    """Whether the plain numbers of the thing are the same for two rows."""
    return meanings.plain(wording, setting, row)[thing] == meanings.plain(wording, setting, other)[thing]


def steps_of(meanings, thing, couple):
    """The pairs of a deed of a couple and the couple after it."""
    return [(deed, after_deed(meanings, thing, couple, deed)) for deed in deeds_of_couple(meanings.plan, couple)]


def is_couple(plan, value):
    """Whether a value of any kind is a couple of the plan, perhaps one that cannot come about."""
    if not isinstance(value, tuple) or len(value) != 3 or not is_wording(plan.book, value[0]):
        return False
    return all([held is None or is_held(plan, held) for held in value[1:]])


def check_couple(plan, couple):
    """Raise BadCouple if this is not a couple of the plan."""
    if not is_couple(plan, couple):
        raise BadCouple("a couple is a triple of a wording and, twice, None or a row with its kept numbers")


def check_once(plan, thing):
    """Raise the error of the first argument that is wrong, where the thing may be there once."""
    check_plan(plan)
    check_thing(plan, thing)
    if plan.things[thing][0] != "kept":
        raise BadThing("only what is kept may be there once")
