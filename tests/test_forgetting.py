import unittest
from itertools import product

from keptmeanings.books import Book
from keptmeanings.errors import BadForget, BadPlan, BadSetting, TooLarge
from keptmeanings.forgetting import Needed, is_enough, least_rule, need
from keptmeanings.forms import Form
from keptmeanings.plans import Plan
from keptmeanings.remembering import is_fresh, recall
from tests.samples import G, S, X, example_plan, mixed_plan
from tests.sessions import SessionReading, all_rules, pairs_of, plan_of_401, session_plans, sessions, telling_plans
from tests.support import (Hostile, assert_equal_by_attributes, assert_errors_in_order, assert_no_other_equal,
                           wrong_values)


def chain_plan():
    """The plan of the example of the interface: functions that call one another, or not."""
    book = Book(2, 1, ((G, 1 - G), (G.by(0),), (G.by(1) * 0, G)))
    return Plan(book, 1, (("kept", X.by(1)),))


def needed():
    """Quadruples of a plan, its reading, a setting and what need tells, where something is needed."""
    found = []
    for plan in session_plans():
        for setting in range(plan.book.settings):
            told = need(plan, setting)
            if told.rule != ():
                found.append((plan, SessionReading(plan, setting, ()), setting, told))
    return found


class TestNeeded(unittest.TestCase):
    def test_all(self):
        seen = {}
        for plan in session_plans():
            for setting in range(plan.book.settings):
                reasons = SessionReading(plan, setting, ()).reasons()
                told = need(plan, setting)
                self.assertEqual(told.rule, tuple(sorted(reasons)))
                self.assertEqual(least_rule(plan, setting), told.rule)
                self.assertEqual(list(told.reasons), list(told.rule))
                for pair, reason in told.reasons.items():
                    self.assertIn(reason, reasons[pair])
                self.assertIs(told.shows(plan, setting), True)
                seen[len(told.rule)] = seen.get(len(told.rule), 0) + 1
        self.assertTrue(all(seen.get(many, 0) > 3 for many in (0, 1, 2, 3)), seen)

    def test_enough_is_fresh(self):
        # Where few scenes come about, all of them are gone through for each rule.
        seen = {True: 0, False: 0}
        for plan in telling_plans():
            if len(plan.book) <= 2 and plan.book.base == 2:
                for setting, rule in product(range(plan.book.settings), all_rules(plan)):
                    enough = SessionReading(plan, setting, rule).soonest_stale() is None
                    self.assertIs(is_enough(plan, setting, rule), enough)
                    self.assertIs(is_fresh(plan, setting, rule), enough)
                    seen[enough] += 1
        for plan, setting, rule in sessions(101, 4):
            reading = SessionReading(plan, setting, rule)
            if len(reading.scenes()) <= 400:
                enough = reading.soonest_stale() is None
                self.assertIs(is_enough(plan, setting, rule), enough)
                seen[enough] += 1
        self.assertGreater(min(seen.values()), 100)

    def test_no_lesser_rule_is_enough(self):
        many = 0
        for plan, reading, setting, told in needed():
            every = tuple(pairs_of(plan))
            self.assertIs(is_enough(plan, setting, told.rule), True)
            self.assertIs(is_enough(plan, setting, every), True)
            for pair in every:
                lesser = tuple(one for one in every if one != pair)
                self.assertIs(is_enough(plan, setting, lesser), pair not in told.rule)
                if pair in told.rule:
                    # A stale ask comes about: what is asked is remembered, and the reason's body is put then.
                    wording, body, number = told.reasons[pair]
                    run = [("put", k, wording[k]) for k in reading.free] + [("ask", pair[1], number),
                                                                            ("put", pair[0], body),
                                                                           ("ask", pair[1], number)]
                    self.assertTrue(SessionReading(plan, setting, lesser).stale_at_last(run))
                    many += 1
        self.assertGreater(many, 100)

    def test_however_many_scenes_come_about(self):
        plan, setting, rule = plan_of_401()
        with self.assertRaises(TooLarge):
            recall(plan, setting, rule)
        self.assertIs(is_enough(plan, setting, rule), set(least_rule(plan, setting)) <= set(rule))
        self.assertIs(is_enough(plan, setting, tuple(pairs_of(plan))), True)
        large = Plan(Book(3, 3, ((G, G + S, S), (G, G.by(0), S), (G.by(0), G.by(1), G))), 1, (("kept", X),))
        for setting in range(3):
            told = need(large, setting)
            self.assertEqual(told.rule, tuple(sorted(SessionReading(large, setting, ()).reasons())))
            self.assertIs(is_enough(large, setting, told.rule), True)
            for at in range(len(told.rule)):
                self.assertIs(is_enough(large, setting, told.rule[:at] + told.rule[at + 1:]), False)

    def test_only_free_functions_and_wordings_within_reach(self):
        plan = chain_plan()
        self.assertEqual([least_rule(plan - [k], 0) for k in range(3)],
                         [((2, 2),), ((0, 0), (0, 1), (2, 2)), ((0, 0), (0, 1))])
        self.assertEqual(least_rule(plan - [0, 1, 2], 0), ())
        self.assertEqual(need(plan - [0, 1, 2], 0), Needed((), {}))
        # The second function calls the first one only by a body that is out of reach.
        book = Book(2, 1, ((G, 1 - G), (G * 0, G.by(0))))
        both = Plan(book, 1, (("kept", X),))
        self.assertEqual([least_rule(one, 0) for one in (both, both - [1])], [((0, 0), (0, 1), (1, 1)), ((0, 0),)])
        self.assertIs(is_enough(both - [1], 0, ((0, 0),)), True)

    def test_only_in_some_wording(self):
        # The first function matters to the third one only while the second one calls it.
        book = Book(2, 1, ((G, 1 - G), (G * 0, G.by(0)), (G.by(1),)))
        plan = Plan(book, 1, (("kept", X),))
        told = need(plan, 0)
        self.assertEqual(told.rule, ((0, 0), (0, 1), (0, 2), (1, 1), (1, 2)))
        self.assertEqual(told.reasons[(0, 2)][0][1], 1)

    def test_by_the_setting(self):
        plan = Plan(Book(3, 3, ((G, G + S), (G.by(0) * S * (S - 1),))), 1, (("kept", X),), writers=(0,), askers=(0,))
        self.assertEqual([least_rule(plan, setting) for setting in range(3)], [(), ((0, 0),), ((0, 0), (0, 1))])

    def test_bodies_that_tell_the_same(self):
        plan = Plan(Book(2, 1, ((G, G * G, G + 0), (G.by(0),))), 1, (("kept", X),))
        self.assertEqual((least_rule(plan, 0), is_enough(plan, 0, ())), ((), True))

    def test_what_is_told_is_new(self):
        plan = chain_plan()
        one, other = need(plan, 0), need(plan, 0)
        self.assertIsNot(one, other)
        self.assertEqual(one, other)
        one.reasons.clear()
        self.assertEqual(need(plan, 0), other)
        self.assertNotEqual(one, other)

    def test_example_of_the_interface(self):
        given = Form.given()
        book = Book(2, 1, ((given, 1 - given), (given.by(0),), (given.by(1) * 0, given)))
        plan = Plan(book, 1, (('kept', Form.column(0).by(1)),))
        told = [least_rule(plan, 0), least_rule(plan - [0], 0), is_enough(plan, 0, ((0, 0), (0, 1))),
                is_enough(plan, 0, ((0, 0), (0, 1), (2, 0), (2, 2))), need(plan, 0).shows(plan, 0),
                Needed(((0, 0), (0, 1), (2, 2)), {}).shows(plan, 0)]
        self.assertEqual(told, [((0, 0), (0, 1), (2, 2)), ((2, 2),), False, True, True, False])

    def test_argument_names(self):
        plan = chain_plan()
        self.assertEqual((need(plan=plan, setting=0), least_rule(plan=plan, setting=0)),
                         (need(plan, 0), least_rule(plan, 0)))
        self.assertIs(is_enough(plan=plan, setting=0, rule=()), False)
        self.assertIs(Needed(rule=(), reasons={}).shows(plan=plan, setting=0), False)


class TestShows(unittest.TestCase):
    def test_all_reasons(self):
        shown = 0
        for plan, reading, setting, told in needed()[::4]:
            reasons = reading.reasons()
            for pair in told.rule[:3]:
                candidates = product(reading.wordings(), range(-1, 4), range(-1, 4))
                for triple in list(candidates)[::3]:
                    expected = triple in reasons[pair]
                    self.assertIs(Needed(told.rule, {**told.reasons, pair: triple}).shows(plan, setting), expected)
                    shown += expected
        self.assertGreater(shown, 50)

    def test_any_order(self):
        for plan, _, setting, told in needed():
            turned = dict(reversed(list(told.reasons.items())))
            self.assertIs(Needed(told.rule, turned).shows(plan, setting), True)

    def test_reasons_changed(self):
        for plan, _, setting, told in needed()[::2]:
            for pair, (wording, body, number) in told.reasons.items():
                left_out = {key: told.reasons[key] for key in told.reasons if key != pair}
                self.assertIs(Needed(told.rule, left_out).shows(plan, setting), False)
                for triple in [(wording, body), (wording, body, number, 0), [wording, body, number], (), None,
                               (None, body, number),
                               (wording, None, number), (wording, body, None), (wording + (0,), body, number),
                               (wording[1:], body, number),
                               (list(wording), body, number), (wording, body, 3), (wording, 3, number),
                               (wording, -1, number),
                               (wording, body, -1), ((3,) * len(wording), body, number),
                               (wording, bool(body), number),
                               (wording, body, bool(number)), (tuple(bool(one) for one in wording), body, number)]:
                    self.assertIs(Needed(told.rule, {**told.reasons, pair: triple}).shows(plan, setting), False)
                for key in [(pair[0],), (*pair, 0), None, 0, (9, 9), (-1, 0), (bool(pair[0]), pair[1]),
                            (pair[0], bool(pair[1])), ()]:
                    self.assertIs(Needed(told.rule, {**left_out, key: (wording, body, number)}).shows(plan, setting),
                                  False)
                    if key not in told.reasons:
                        self.assertIs(Needed(told.rule, {**told.reasons, key: told.reasons[pair]}).shows(plan,
                                                                                                         setting), False)
            more = [pair for pair in pairs_of(plan) if pair not in told.rule]
            for pair in more[:2]:
                extended = {**told.reasons, pair: told.reasons[told.rule[0]]}
                self.assertIs(Needed(told.rule, extended).shows(plan, setting), False)
                self.assertIs(Needed(tuple(sorted([*told.rule, pair])), extended).shows(plan, setting), False)

    def test_rules_changed(self):
        for plan, _, setting, told in needed()[::2]:
            first = told.rule[0]
            for rule in [told.rule[1:], told.rule[:-1], told.rule + told.rule[-1:], told.rule[:1] + told.rule,
                         list(told.rule), (), None,
                         told.rule + ((9, 9),), told.rule + (None,), ((first[0], bool(first[1])), *told.rule[1:]),
                         ((first[0],), *told.rule[1:]), ((*first, 0), *told.rule[1:])]:
                self.assertIs(Needed(rule, told.reasons).shows(plan, setting), False)
            if len(told.rule) > 1:
                self.assertIs(Needed(told.rule[::-1], told.reasons).shows(plan, setting), False)
            lesser = told.rule[1:]
            self.assertIs(Needed(lesser, {pair: told.reasons[pair] for pair in lesser}).shows(plan, setting), False)
        self.assertIs(Needed((), {}).shows(chain_plan() - [0, 1, 2], 0), True)
        self.assertIs(Needed((), {}).shows(chain_plan(), 0), False)

    def test_wordings_out_of_reach(self):
        book = Book(2, 1, ((G, 1 - G), (G, G + 0)))
        plan = Plan(book, 1, (("kept", X),), free=(0,))
        self.assertEqual(least_rule(plan, 0), ((0, 0),))
        for wording, expected in [((0, 0), True), ((1, 0), False), ((0, 1), False), ((1, 1), False)]:
            self.assertIs(Needed(((0, 0),), {(0, 0): (wording, 1, 0)}).shows(plan, 0), expected)
        self.assertIs(Needed(((0, 0),), {(0, 0): ((1, 0), 0, 0)}).shows(plan, 0), True)
        self.assertIs(Needed(((0, 0),), {(0, 0): ((0, 1), 1, 0)}).shows(plan | [1], 0), True)

    def test_of_other_plans_and_settings(self):
        plan = Plan(Book(3, 3, ((G, G + S), (G.by(0) * S * (S - 1),))), 1, (("kept", X),))
        told = [need(plan, setting) for setting in range(3)]
        for setting, other in product(range(3), repeat=2):
            self.assertIs(told[setting].shows(plan, other), setting == other)
        self.assertIs(told[2].shows(plan - [0], 2), False)

    def test_current_attributes_and_copies(self):
        plan = chain_plan()
        reasons = need(plan, 0).reasons
        told = Needed(least_rule(plan, 0), reasons)
        reasons.clear()
        self.assertIs(told.shows(plan, 0), True)
        removed = told.reasons.pop((2, 2))
        self.assertIs(told.shows(plan, 0), False)
        told.reasons[(2, 2)] = removed
        self.assertIs(told.shows(plan, 0), True)
        told.rule = told.rule[1:]
        self.assertIs(told.shows(plan, 0), False)


class TestEqual(unittest.TestCase):
    def test_attributes(self):
        reason, other_reason = ((0,), 1, 0), ((0,), 1, 1)
        made = [((), {}), (((0, 0),), {}), (((0, 0),), {(0, 0): reason}), (((0, 0),), {(0, 0): other_reason}),
                ((), {(0, 0): reason}),
                (((0, 0),), {(0, 1): reason})]
        assert_equal_by_attributes(self, [(Needed, parts) for parts in made])

    def test_not_equal_to_other_classes(self):
        plan = example_plan()
        assert_no_other_equal(self, [Needed((), {})], [plan, plan.book, X])


class TestErrors(unittest.TestCase):
    def test_errors_in_order(self):
        plan = mixed_plan()
        no_plans = [None, *wrong_values()[::3], plan.book, X, Plan, Hostile()]
        no_settings = [2, *wrong_values()[::3], True, False, -1, "0", Hostile()]
        no_rules = [None, *[value for value in wrong_values() if value.__class__ is not tuple or len(value)],
                    [(0, 0)], [], (0, 0),
                    ((0, 0), (0, 0)), ((0, 1), (0, 0)), ((0, 2),), ((2, 0),), ((0, True),), ((0,),), ((0, 0, 0),),
                    ([0, 0],), Hostile()]
        checks = [(0, BadPlan, no_plans), (1, BadSetting, no_settings), (2, BadForget, no_rules)]
        for function in (need, least_rule, Needed((), {}).shows, Needed(None, {None: None}).shows):
            assert_errors_in_order(self, function, (plan, 1), checks[:2])
        assert_errors_in_order(self, is_enough, (plan, 1, ((0, 0), (1, 1))), checks)


if __name__ == "__main__":
    unittest.main()
