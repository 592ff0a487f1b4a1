"""Stands: what may be there while functions are redefined and rows are written, and which things can be asked."""

from keptmeanings.checks import is_wording
from keptmeanings.meanings import Meanings
from keptmeanings.plans import is_ascending
from keptmeanings.rows import builds_of, is_held, puts_of, wrong_for


class Stands:
    """The stands of a plan; what is found of one is found once, so one object serves for many stands."""

    def __init__(self, plan):
        self._plan = plan
        self._meanings = Meanings(plan)
        self._written = {}
        self._wrong = {}
        self._steps = {}

    def first(self):
        """The first stand: the first wording, all things, and what is written by it."""
        wording = (0,) * len(self._plan.book)
        return (wording, tuple(range(len(self._plan))), in_order(self.written(wording)))

    def written(self, wording):
        """The list of what is there after a row is written by a wording, for each row and writer that pass."""
        if wording not in self._written:
            held = [self._meanings.written(wording, writer, row)
                    for row in self._plan.rows() for writer in self._plan.writers]
            self._written[wording] = [one for one in held if one is not None]
        return self._written[wording]

    def choices(self, stand):
        """The list of the deeds of a stand, in order."""
        wording, asked, _ = stand
        puts = [deed for deed in puts_of(self._plan) if wording[deed[1]] != deed[2]]
        turns = [("shut" if thing in asked else "open", thing) for thing in range(len(self._plan))]
        return puts + builds_of(self._plan) + turns

    def following(self, stand, deed):
        """The stand after one of its deeds."""
        wording, asked, there = stand
        if deed[0] == "put":
            wording = self._plan.book.put(wording, deed[1], deed[2])
        elif deed[0] == "build":
            built = [self._meanings.built(wording, deed[2], held, deed[1]) for held in there]
            there = [held for held in built if held is not None]
        elif deed[0] == "shut":
            asked = tuple([thing for thing in asked if thing != deed[1]])
        else:
            asked = tuple(sorted([*asked, deed[1]]))
        return (wording, asked, in_order([*there, *self.written(wording)]))

    def is_wrong(self, wording, held, thing):
        """Whether the state of a wording and of what is there is wrong for a thing."""
        key = (wording, held, thing)
        if key not in self._wrong:
            self._wrong[key] = wrong_for(self._meanings, (wording, held), [thing]) != {}
        return self._wrong[key]

    def is_fine(self, stand):
        """Whether a stand is good."""
        wording, asked, there = stand
        return not any([self.is_wrong(wording, held, thing) for held in there for thing in asked])

    def steps(self, stand):
        """The pairs of a deed of a stand and the stand after it, where this one is good."""
        if stand not in self._steps:
            pairs = [(deed, self.following(stand, deed)) for deed in self.choices(stand)]
            self._steps[stand] = [(deed, after) for deed, after in pairs if self.is_fine(after)]
        return self._steps[stand]


def in_order(there):
    """The ascending tuple of what may be there, from a list in any order, with some perhaps more than once."""
    return tuple(sorted(set(there)))


def is_stand(plan, value):
    """Whether a value of any kind is a stand of the plan, perhaps one that cannot come about."""
    if not isinstance(value, tuple) or len(value) != 3 or not is_wording(plan.book, value[0]):
        return False
    if not is_ascending(value[1], len(plan)) or not isinstance(value[2], tuple):
        return False
    if not all([is_held(plan, held) for held in value[2]]):
        return False
    return all([one < other for one, other in zip(value[2], value[2][1:])])
