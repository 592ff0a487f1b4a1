"""Kept numbers: the states of a row, the deeds that change them, and what is told by asks."""

from keptmeanings.checks import is_among, is_below, is_one_of, is_row, is_wording
from keptmeanings.errors import BadAsk, BadDeed, BadHistory, BadState
from keptmeanings.meanings import Meanings
from keptmeanings.plans import check_plan

MOST_DEEDS = 100


def first_state(plan):
    """The first state: the first wording, and no row."""
    check_plan(plan)
    return ((0,) * len(plan.book), None)


def deeds(plan, state):
    """The list of the deeds of a state, in order."""
    check_plan(plan)
    check_state(plan, state)
    return deeds_of(plan, state)


def after(plan, state, deed):
    """The state after a deed."""
    check_plan(plan)
    check_state(plan, state)
    if not is_among(deed, deeds_of(plan, state)):
        raise BadDeed("not a deed of the state")
    return state_after(Meanings(plan), state, deed)


def states_of(plan, history):
    """The list of the first state and those after each deed of a history."""
    check_plan(plan)
    if not isinstance(history, (list, tuple)) or len(history) > MOST_DEEDS:
        raise BadHistory(None)
    meanings = Meanings(plan)
    state = first_state(plan)
    states = [state]
    for index, deed in enumerate(history):
        if not is_among(deed, deeds_of(plan, state)):
            raise BadHistory(index)
        state = state_after(meanings, state, deed)
        states.append(state)
    return states


def told(plan, state, ask):
    """The pair of whether the row is told plainly, and whether it is told by the thing."""
    check_plan(plan)
    check_state(plan, state)
    if not is_ask(plan, ask):
        raise BadAsk("an ask is a triple of a thing, a number of the book and an asker")
    return told_both_ways(Meanings(plan), state, ask)


def wrong_asks(plan, state):
    """A dict from all asks, ascending, by which the row is told in just one of both ways, to their words."""
    check_plan(plan)
    check_state(plan, state)
    return wrong_for(Meanings(plan), state, list(range(len(plan))))


def deeds_of(plan, state):
    """The list of the deeds of a state, in order, of a plan and a state that are none to doubt."""
    writes = [("write", row, writer) for row in plan.rows() for writer in plan.writers]
    return puts_of(plan) + builds_of(plan) + (writes if state[1] is None else [])


def puts_of(plan):
    """The list of the deeds that put a body of a free function, in order."""
    return [("put", k, body) for k in plan.free for body in range(len(plan.book.functions[k]))]


def builds_of(plan):
    """The list of the deeds that build a thing, in order."""
    return [("build", thing, writer) for thing in range(len(plan)) for writer in plan.writers]


def state_after(meanings, state, deed):
    """The state after one of its deeds."""
    wording, held = state
    word, what, by = deed
    if word == "put":
        return (meanings.plan.book.put(wording, what, by), held)
    if word == "build":
        return (wording, meanings.built(wording, by, held, what))
    return (wording, meanings.written(wording, by, what))


def told_both_ways(meanings, state, ask):
    """The pair of whether the row of a state is told plainly by an ask, and whether by the thing."""
    wording, held = state
    if held is None:
        return (False, False)
    thing, number, asker = ask
    row, kept = held
    mode = meanings.plan.things[thing][0]
    plainly = meanings.plain(wording, asker, row)[thing] == number
    if mode == "kept":
        return (plainly, kept[thing] == number)
    if mode == "again":
        return (plainly, plainly and kept[thing] == number)
    return (plainly, plainly and number != 0)


def wrong_for(meanings, state, things):
    """A dict from the asks of some things, ascending as these are, by which the state is wrong, to their words."""
    words = {}
    for thing in things:
        for number in range(meanings.plan.book.base):
            for asker in meanings.plan.askers:
                plainly, by_thing = told_both_ways(meanings, state, (thing, number, asker))
                if plainly != by_thing:
                    words[(thing, number, asker)] = "lost" if plainly else "extra"
    return words


def check_state(plan, state):
    """Raise BadState if this is not a state of the plan."""
    if not is_state(plan, state):
        raise BadState("a state is a pair of a wording and None, or of a wording and a row with its kept numbers")


def is_state(plan, value):
    """Whether a value of any kind is a state of the plan, perhaps one that cannot come about."""
    if not isinstance(value, tuple) or len(value) != 2 or not is_wording(plan.book, value[0]):
        return False
    return value[1] is None or is_held(plan, value[1])


def is_held(plan, value):
    """Whether a value of any kind is a pair of a row and its kept numbers, perhaps such that cannot come about."""
    if not isinstance(value, tuple) or len(value) != 2 or not is_row(plan, value[0]):
        return False
    kept = value[1]
    if not isinstance(kept, tuple) or len(kept) != len(plan):
        return False
    return all([is_kept_number(number, mode, plan.book.base) for number, (mode, _) in zip(kept, plan.things)])


def is_kept_number(value, mode, base):
    """Whether a value of any kind can be the kept number of a thing with this mode."""
    return is_below(value, base) and (mode != "check" or value == 1)


def is_ask(plan, value):
    """Whether a value of any kind is an ask of the plan."""
    if not isinstance(value, tuple) or len(value) != 3:
        return False
    return is_below(value[0], len(plan)) and is_below(value[1], plan.book.base) and is_one_of(value[2], plan.askers)
