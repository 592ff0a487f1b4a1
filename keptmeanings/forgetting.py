"""Forgetting: what a session must forget when a function is redefined, so that no ask is ever stale."""

from keptmeanings.checks import check_rule, check_setting, is_below, is_pair_of_functions, is_rule, is_wording
from keptmeanings.plans import check_plan
from keptmeanings.probes import reach
from keptmeanings.reckoning import tables_by


class Needed:
    """The least rule of forgetting that is enough, and for each of its pairs a redefinition for which it is needed."""

    def __init__(self, rule, reasons):
        self.rule = rule
        self.reasons = {pair: reasons[pair] for pair in reasons}

    def shows(self, plan, setting):
        """Whether the rule is the least one that is enough, and the reasons are reasons for its pairs."""
        check_needed(plan, setting)
        book = plan.book
        # A boolean in a pair would be equal to a function that is found below.
        if not is_rule(book, self.rule) or not all([is_pair_of_functions(book, pair) for pair in self.reasons]):
            return False
        tables = tables_within_reach(plan, setting)
        if self.rule != tuple(reasons_for(plan, tables)) or sorted(list(self.reasons)) != list(self.rule):
            return False
        return all([is_reason(plan, tables, pair, self.reasons[pair]) for pair in self.rule])

    def __eq__(self, other):
        return isinstance(other, Needed) and self.rule == other.rule and self.reasons == other.reasons


def need(plan, setting):
    """The Needed of a plan and a setting."""
    check_needed(plan, setting)
    reasons = reasons_for(plan, tables_within_reach(plan, setting))
    return Needed(tuple(reasons), reasons)


def least_rule(plan, setting):
    """The least rule of forgetting that is enough."""
    return need(plan, setting).rule


def is_enough(plan, setting, rule):
    """Whether a rule of forgetting is enough."""
    check_needed(plan, setting)
    check_rule(plan.book, rule)
    # What is remembered stays right just if all is forgotten that a put within reach changes.
    return all([pair in rule for pair in least_rule(plan, setting)])


def tables_within_reach(plan, setting):
    """A dict from the wordings within reach, in order, to what all functions tell by them."""
    return {wording: tables_by(plan.book, wording, setting) for wording in reach(plan)}


def reasons_for(plan, tables):
    """A dict from the pairs of functions for which there is a reason, in order, to the first reason of each."""
    reasons = {}
    for one in plan.free:
        for other in range(len(plan.book)):
            found = reasons_of(plan, tables, (one, other))
            if found != []:
                reasons[(one, other)] = found[0]
    return reasons


def reasons_of(plan, tables, pair):
    """The list of all reasons for a pair of functions, the first one free.

    A reason is a triple of a wording within reach, a body of the first function and a number, for which the second
    function tells another number after the body is put than before.
    """
    one, other = pair
    found = []
    for wording in tables:
        for body in range(len(plan.book.functions[one])):
            before, after = tables[wording][other], tables[plan.book.put(wording, one, body)][other]
            numbers = [number for number in range(plan.book.base) if before[number] != after[number]]
            found.extend([(wording, body, number) for number in numbers])
    return found


def is_reason(plan, tables, pair, value):
    """Whether a value of any kind is a reason for a pair of functions, the first one free."""
    if not isinstance(value, tuple) or len(value) != 3 or not is_wording(plan.book, value[0]):
        return False
    if not is_below(value[1], len(plan.book.functions[pair[0]])) or not is_below(value[2], plan.book.base):
        return False
    return value in reasons_of(plan, tables, pair)


def check_needed(plan, setting):
    """Raise the error of the first argument that is wrong."""
    check_plan(plan)
    check_setting(plan.book, setting)
