"""Judging: whether a thing ever goes wrong, whatever is written, redefined and rebuilt."""

from keptmeanings.checks import check_thing
from keptmeanings.errors import BadHistory
from keptmeanings.meanings import Meanings
from keptmeanings.plans import check_plan
from keptmeanings.rows import deeds_of, first_state, is_ask, is_state, state_after, states_of, wrong_for
from keptmeanings.ways import deeds_to, ways_from

MOST_STATES = 400


class Steady:
    """That a thing never goes wrong: a list of states that no deed leads out of, none of them wrong."""

    def __init__(self, states):
        self.states = list(states)

    def shows(self, plan, thing):
        """Whether the states are such a list for the thing."""
        check_plan(plan)
        check_thing(plan, thing)
        if not all([is_state(plan, state) for state in self.states]):
            return False
        listed = {state: True for state in self.states}
        meanings = Meanings(plan)
        if first_state(plan) not in listed:
            return False
        for state in listed:
            if wrong_for(meanings, state, [thing]) != {}:
                return False
            if not all([following in listed for _, following in steps_of(meanings, state)]):
                return False
        return True

    def __eq__(self, other):
        return isinstance(other, Steady) and self.states == other.states


class Astray:
    """That a thing goes wrong: a history, and an ask of the thing by which the state after it is wrong."""

    def __init__(self, history, ask):
        self.history = list(history)
        self.ask = ask

    def shows(self, plan, thing):
        """Whether the history leads to a state that is wrong for the thing by the ask."""
        check_plan(plan)
        check_thing(plan, thing)
        # An ask with a boolean in it would be equal to one that is found below.
        if not is_ask(plan, self.ask):
            return False
        try:
            states = states_of(plan, self.history)
        except BadHistory:
            return False
        return self.ask in wrong_for(Meanings(plan), states[-1], [thing])

    def __eq__(self, other):
        return isinstance(other, Astray) and self.history == other.history and self.ask == other.ask


def judge(plan, thing):
    """A Steady, or an Astray with a history of as few deeds as possible."""
    check_plan(plan)
    check_thing(plan, thing)
    meanings = Meanings(plan)
    ways = ways_about(meanings)
    # The states stand in the order of how soon they come about, so the first wrong one is a soonest one.
    for state in ways:
        asks = list(wrong_for(meanings, state, [thing]))
        if asks != []:
            return Astray(deeds_to(ways, state), asks[0])
    return Steady(list(ways))


def is_steady(plan, thing):
    """Whether a thing never goes wrong."""
    return isinstance(judge(plan, thing), Steady)


def soonest(plan, thing):
    """The least number of deeds after which a thing is wrong, None if it never is."""
    judged = judge(plan, thing)
    return len(judged.history) if isinstance(judged, Astray) else None


def count_states(plan):
    """How many states come about."""
    check_plan(plan)
    return len(ways_about(Meanings(plan)))


def ways_about(meanings):
    """How all states come about, soonest first; raise TooLarge if there are too many of them."""
    return ways_from(first_state(meanings.plan), lambda state: steps_of(meanings, state), MOST_STATES)


def steps_of(meanings, state):
    """The pairs of a deed of a state and the state after it."""
    return [(deed, state_after(meanings, state, deed)) for deed in deeds_of(meanings.plan, state)]
