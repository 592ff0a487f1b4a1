import unittest
from functools import lru_cache
from itertools import product

from keptmeanings.books import Book
from keptmeanings.errors import BadPlan, BadThing, TooLarge
from keptmeanings.forms import Form
from keptmeanings.judging import Astray, Steady, count_states, is_steady, judge, soonest
from keptmeanings.plans import Plan
from keptmeanings.rows import deeds, states_of, wrong_asks
from tests.reading import Reading
from tests.samples import (G, K, S, X, example_plan, few_plans, made_plans, mixed_plan, plan_of_400, plan_of_402,
                           three_plan)
from tests.support import assert_equal_by_attributes, assert_errors_in_order, assert_no_other_equal, wrong_values

PLANS = [plan for plan in few_plans() + made_plans(8, 250) if len(Reading(plan).about(400)) <= 400]


@lru_cache(None)
def with_verdict(kind):
    """Triples of a plan, a thing and what judge tells of it, where it tells one of this kind, with few states."""
    found = []
    for plan in PLANS[:150]:
        if count_states(plan) <= 60:
            judged = [(plan, thing, judge(plan, thing)) for thing in range(len(plan))]
            found += [triple for triple in judged if isinstance(triple[2], kind)]
    return found


class TestJudge(unittest.TestCase):
    def test_all_verdicts(self):
        seen = {}
        for plan in PLANS:
            reading = Reading(plan)
            for thing in range(len(plan)):
                least = reading.soonest(thing)
                judged = judge(plan, thing)
                self.assertEqual(soonest(plan, thing), least)
                self.assertIs(is_steady(plan, thing), least is None)
                self.assertIs(judged.__class__, Steady if least is None else Astray)
                self.assertIs(judged.shows(plan, thing), True)
                if least is None:
                    self.assertTrue(reading.closed(judged.states, thing))
                else:
                    self.assertEqual(len(judged.history), least)
                    states = states_of(plan, judged.history)
                    self.assertIn(judged.ask, [ask for ask, _ in reading.wrong(states[-1])])
                    self.assertEqual(judged.ask[0], thing)
                seen[least] = seen.get(least, 0) + 1
        self.assertTrue(all(seen.get(least, 0) > 5 for least in (None, 1, 2)), seen)

    def test_how_many_states(self):
        for plan in PLANS:
            self.assertEqual(count_states(plan), len(Reading(plan).about()))

    def test_later_wrong(self):
        book = Book(2, 1, ((G, 1 - G), (G, Form.number(0))))
        plan = Plan(book, 1, (("kept", X.by(0)), ("again", K.by(1)), ("check", K.by(1) + 1)))
        self.assertEqual([soonest(plan, thing) for thing in range(3)], [Reading(plan).soonest(thing) for thing in range(3)])
        self.assertEqual(soonest(plan - [0], 0), None)
        self.assertEqual([soonest(plan - [0, 1], thing) for thing in range(3)], [None, None, None])
        # What is built by a kept number of another wording, and asked by the first one again, goes wrong late.
        late = Plan(Book(2, 1, ((G, 1 - G),)), 1, (("kept", X.by(0)), ("kept", K), ("kept", K + Form.kept(1))))
        self.assertEqual(soonest(late, 2), 4)
        self.assertEqual(Reading(late).soonest(2), 4)

    def test_by_sessions(self):
        book = Book(2, 2, ((G + S,),))
        told = {}
        for writer, asker in product((0, 1), (0, 1)):
            plan = Plan(book, 1, (("kept", X.by(0)), ("check", X.by(0))), writers=(writer,), askers=(asker,))
            told[(writer, asker)] = [soonest(plan, thing) for thing in range(2)]
        self.assertEqual(told, {(0, 0): [None, None], (1, 1): [None, None], (0, 1): [1, 1], (1, 0): [1, 1]})

    def test_what_is_told_is_new(self):
        for plan, thing in [(example_plan(), 0), (three_plan(), 0)]:
            one, other = judge(plan, thing), judge(plan, thing)
            self.assertIsNot(one, other)
            self.assertEqual(one, other)
            told = one.history if isinstance(one, Astray) else one.states
            told.clear()
            self.assertNotEqual(one, judge(plan, thing))
            self.assertEqual(other, judge(plan, thing))

    def test_argument_names(self):
        plan = example_plan()
        self.assertEqual(judge(plan=plan, thing=1), judge(plan, 1))
        self.assertEqual((is_steady(plan=plan, thing=0), soonest(plan=plan, thing=0), count_states(plan=plan)), (False, 2, 18))
        self.assertTrue(judge(plan, 1).shows(plan=plan, thing=1))
        self.assertEqual(Steady(states=[]), Steady([]))
        self.assertEqual(Astray(history=[], ask=(0, 0, 0)), Astray([], (0, 0, 0)))

    def test_example_of_the_interface(self):
        plan = example_plan()
        other = Plan(Book(2, 2, ((G + Form.setting(),),)), 1, (('kept', X.by(0)),))
        told = [soonest(plan, 0), is_steady(plan - [0], 0), count_states(plan), count_states(plan - [0]),
                soonest(other, 0), Astray([('write', (1,), 0), ('put', 0, 1)], (2, 0, 0)).shows(plan, 2)]
        self.assertEqual(told, [2, True, 18, 2, 1, True])


class TestTooLarge(unittest.TestCase):
    def assert_large(self, plan):
        with self.assertRaises(TooLarge):
            count_states(plan)
        for function in (judge, is_steady, soonest):
            for thing in range(len(plan)):
                with self.assertRaises(TooLarge):
                    function(plan, thing)

    def test_exactly_400(self):
        for plan in (plan_of_400(True), plan_of_400(False)):
            self.assertEqual((count_states(plan), len(Reading(plan).about())), (400, 400))
            for thing in range(len(plan)):
                self.assertTrue(judge(plan, thing).shows(plan, thing))
        self.assertEqual(len(judge(plan_of_400(True), 2).states), 400)
        self.assertEqual([soonest(plan_of_400(False), thing) for thing in range(3)], [1, 1, 1])
        self.assertIs(is_steady(plan_of_400(True), 2), True)

    def test_more_than_400(self):
        self.assertEqual(len(Reading(plan_of_402()).about()), 402)
        self.assert_large(plan_of_402())
        large = [plan for plan in made_plans(9, 1200) if len(Reading(plan).about(400)) > 400]
        self.assertGreater(len(large), 2)
        for plan in large:
            self.assert_large(plan)

    def test_evidence_may_be_larger(self):
        plan = plan_of_402()
        self.assertIs(Astray([("write", (0, 1), 0)], (0, 0, 1)).shows(plan, 0), True)
        book = Book(3, 3, ((G, S), (G, G, G), (G, 1 - G)))
        five = (X * Form.column(1)).same(0)
        plan = Plan(book, 2, (("kept", S * five), ("again", S * five), ("check", Form.number(1))))
        states = Reading(plan).about()
        self.assertEqual(len(states), 600)
        self.assert_large(plan)
        self.assertIs(Steady(states).shows(plan, 2), True)
        self.assertIs(Steady(states[:-1]).shows(plan, 2), False)
        self.assertIs(Steady(states).shows(plan, 0), False)

    def test_not_what_is_not_free(self):
        plan = plan_of_402()
        self.assertEqual(count_states(plan - [0, 1]), 199 + 2)
        self.assertEqual(count_states(plan - [0, 1] | [0]), 199 + 2)


class TestSteady(unittest.TestCase):
    def setUp(self):
        self.found = with_verdict(Steady)
        self.assertGreater(len(self.found), 30)

    def test_any_order_and_more_than_once(self):
        for plan, thing, judged in self.found:
            states = judged.states
            for changed in (states[::-1], states + states, states[1:] + states[:1], sorted(states, key=repr) + states[:2]):
                self.assertIs(Steady(changed).shows(plan, thing), True)

    def test_states_left_out(self):
        for plan, thing, judged in self.found:
            # All of the states come about from the first one, so each one that is left out is missed.
            self.assertIs(Steady([]).shows(plan, thing), False)
            for at in range(len(judged.states)):
                changed = judged.states[:at] + judged.states[at + 1:]
                self.assertIs(Steady(changed).shows(plan, thing), False)

    def test_states_put_in(self):
        seen = {True: 0, False: 0}
        for plan, thing, judged in self.found[::3]:
            reading = Reading(plan)
            states = reading.all_states()
            for state in states[::1 + len(states) // 12]:
                changed = [state] + judged.states
                shown = Steady(changed).shows(plan, thing)
                self.assertIs(shown, reading.closed(changed, thing))
                seen[shown] += 1
            for changed in (states, [state for state in states if not reading.is_wrong(state, thing)]):
                self.assertIs(Steady(changed).shows(plan, thing), reading.closed(changed, thing))
        self.assertTrue(seen[True] > 5 and seen[False] > 5, seen)

    def test_states_that_cannot_come_about(self):
        plan = Plan(Book(2, 1, ((G,),)), 1, (("kept", X * 0), ("check", Form.number(1))))
        states = [((0,), None), ((0,), ((0,), (0, 1))), ((0,), ((1,), (0, 1)))]
        other = ((0,), ((1,), (1, 1)))
        self.assertEqual(sorted(judge(plan, 1).states, key=repr), sorted(states, key=repr))
        self.assertIs(Steady(states + [other]).shows(plan, 1), True)
        self.assertIs(Steady(states + [other]).shows(plan, 0), False)
        self.assertIs(Steady(states).shows(plan, 0), True)

    def test_no_states(self):
        for plan, thing, judged in self.found:
            wording, nothing = judged.states[0]
            row, kept = (0,) * plan.columns, (1,) * len(plan)
            for wrong in [(wording, (row, kept + (1,))), (wording, ((3,) * plan.columns, kept)), ((9,) * len(wording), None),
                          (wording + (0,), None), ((False,) * len(wording), None), (wording, (row, (3,) * len(plan))),
                          (wording, (row, (True,) * len(plan))), (wording, ((False,) * plan.columns, kept)),
                          (wording, ((), ())), ((), None), (wording, (kept[:0], kept)), (wording, (row, kept[1:]))]:
                self.assertIs(Steady(judged.states + [wrong]).shows(plan, thing), False)
                self.assertIs(Steady([wrong] + judged.states).shows(plan, thing), False)

    def test_a_check_is_kept_as_1(self):
        plan = Plan(Book(2, 1, ((G,),)), 1, (("kept", X), ("check", X)), free=())
        states = judge(plan, 1).states
        self.assertIs(Steady(states).shows(plan, 1), True)
        self.assertIs(Steady(states + [((0,), ((1,), (0, 1)))]).shows(plan, 1), True)
        self.assertIs(Steady(states + [((0,), ((1,), (1, 0)))]).shows(plan, 1), False)
        self.assertIs(Steady(states + [((0,), ((1,), (0, 0)))]).shows(plan, 1), False)

    def test_first_state(self):
        plan = Plan(Book(2, 1, ((G, 1 - G),)), 1, (("check", X.by(0)),), free=())
        self.assertIs(Steady([((0,), None), ((0,), ((1,), (1,)))]).shows(plan, 0), True)
        self.assertIs(Steady([((1,), None), ((1,), ((0,), (1,)))]).shows(plan, 0), False)
        self.assertIs(Steady([((0,), ((1,), (1,)))]).shows(plan, 0), False)

    def test_current_attributes(self):
        plan, thing = three_plan(), 0
        judged = judge(plan, thing)
        states = judged.states
        judged.states = states[1:]
        self.assertIs(judged.shows(plan, thing), False)
        judged.states.append(states[0])
        self.assertIs(judged.shows(plan, thing), True)
        del judged.states[3]
        self.assertIs(judged.shows(plan, thing), False)

    def test_lists_are_copied(self):
        states = [((0,), None)]
        steady = Steady(states)
        states.append(1)
        self.assertEqual(steady.states, [((0,), None)])
        self.assertIs(Steady(tuple(states)).states.__class__, list)


class TestAstray(unittest.TestCase):
    def setUp(self):
        self.found = with_verdict(Astray)
        self.assertGreater(len(self.found), 60)

    def test_all_asks(self):
        for plan, thing, judged in self.found:
            asks = wrong_asks(plan, states_of(plan, judged.history)[-1])
            for ask in product(range(-1, 4), repeat=3):
                expected = ask in asks and ask[0] == thing
                self.assertIs(Astray(judged.history, ask).shows(plan, thing), expected)

    def test_other_asks(self):
        for plan, thing, judged in self.found:
            _, number, asker = judged.ask
            for ask in [(True, number, asker), (thing, number), (thing, number, asker, 0), (False, False, False), (),
                        (thing, number, True), (thing, number, False), (thing, number == 1, asker), [thing, number, asker]]:
                self.assertIs(Astray(judged.history, ask).shows(plan, thing), False)

    def test_histories(self):
        for plan, thing, judged in self.found[::2]:
            reading = Reading(plan)
            history = judged.history
            self.assertIs(Astray([], judged.ask).shows(plan, thing), False)
            for at in range(len(history)):
                left_out = history[:at] + history[at + 1:]
                twice = history[:at + 1] + history[at:]
                self.assert_history(reading, plan, thing, left_out, judged.ask)
                self.assert_history(reading, plan, thing, twice, judged.ask)
                self.assert_history(reading, plan, thing, history[:at], judged.ask)
                self.assert_history(reading, plan, thing, history[::-1], judged.ask)
            for deed in deeds(plan, states_of(plan, history)[-1]):
                self.assert_history(reading, plan, thing, history + [deed], judged.ask)

    def assert_history(self, reading, plan, thing, history, ask):
        states = [reading.first]
        for deed in history:
            states.append(reading.after(states[-1], deed) if deed in reading.deeds(states[-1]) else None)
            if states[-1] is None:
                break
        expected = states[-1] is not None and ask in [wrong for wrong, _ in reading.wrong(states[-1])]
        self.assertIs(Astray(history, ask).shows(plan, thing), expected)

    def test_deeds_that_are_none(self):
        plan = example_plan()
        write, put, ask = ("write", (1,), 0), ("put", 0, 1), (0, 0, 0)
        self.assertIs(Astray([write, put], ask).shows(plan, 0), True)
        for wrong in [("put", 0, 2), ("put", 1, 0), ("put", 0, True), ("put", 0), (), ("build", 3, 0), write, ("write", 1, 0),
                      ("lost", 0, 0), ("write", (True,), 0), (0, 0, 0)]:
            for history in ([write, put, wrong], [write, wrong, put], [wrong, write, wrong, put]):
                self.assertIs(Astray(history, ask).shows(plan, 0), False)
        self.assertIs(Astray([("write", (True,), 0), put], ask).shows(plan, 0), False)
        self.assertIs(Astray([write, ("put", 0, True)], ask).shows(plan, 0), False)

    def test_a_hundred_deeds(self):
        plan = example_plan()
        write, put, ask = ("write", (1,), 0), ("put", 0, 1), (0, 0, 0)
        self.assertIs(Astray([write] + [put] * 99, ask).shows(plan, 0), True)
        self.assertIs(Astray([write] + [put] * 100, ask).shows(plan, 0), False)

    def test_other_things(self):
        plan = example_plan()
        history = [("write", (1,), 0), ("put", 0, 1)]
        for thing, other in product(range(3), range(3)):
            self.assertIs(Astray(history, (other, 0, 0)).shows(plan, thing), thing == other)

    def test_askers(self):
        plan = mixed_plan()
        judged = judge(plan, 0)
        self.assertIs(judged.shows(plan, 0), True)
        thing, number, asker = judged.ask
        narrow = Plan(plan.book, 2, plan.things, free=(0,), writers=(1,), askers=(1 - asker,))
        self.assertIs(judged.shows(narrow, 0), False)

    def test_current_attributes(self):
        plan = example_plan()
        judged = Astray([("write", (1,), 0)], (0, 0, 0))
        self.assertIs(judged.shows(plan, 0), False)
        judged.history.append(("put", 0, 1))
        self.assertIs(judged.shows(plan, 0), True)
        judged.ask = (0, 0, 1)
        self.assertIs(judged.shows(plan, 0), False)
        judged.ask = (0, 1, 0)
        self.assertIs(judged.shows(plan, 0), True)
        judged.history = []
        self.assertIs(judged.shows(plan, 0), False)

    def test_lists_are_copied(self):
        history = [("write", (1,), 0)]
        astray = Astray(history, (0, 0, 0))
        history.append(1)
        self.assertEqual((astray.history, astray.ask), ([("write", (1,), 0)], (0, 0, 0)))


class TestEqual(unittest.TestCase):
    def test_attributes(self):
        made = [(Steady, ([],)), (Steady, ([((0,), None)],)), (Steady, ([((0,), None)] * 2,)), (Astray, ([], (0, 0, 0))),
                (Astray, ([], (0, 0, 1))), (Astray, ([("put", 0, 0)], (0, 0, 0))), (Astray, ([("put", 0, 1)], (0, 0, 0)))]
        assert_equal_by_attributes(self, made)

    def test_not_equal_to_other_classes(self):
        plan = example_plan()
        assert_no_other_equal(self, [Steady([]), Astray([], (0, 0, 0))], [plan, plan.book, X])


class TestErrors(unittest.TestCase):
    def test_errors_in_order(self):
        plan = example_plan()
        plans = [*wrong_values(), plan.book, X, Plan, (plan,)]
        things = [*wrong_values(), 3, "0", (0,), plan]
        checks = [(0, BadPlan, plans), (1, BadThing, things)]
        for function in (judge, is_steady, soonest, Steady([((0,), None)]).shows, Astray([], (0, 0, 0)).shows,
                         Steady([None]).shows, Astray([None], None).shows):
            assert_errors_in_order(self, function, (plan, 2), checks)
        assert_errors_in_order(self, count_states, (plan,), checks[:1])

    def test_a_wrong_thing_comes_first(self):
        for function in (judge, is_steady, soonest):
            for thing in [3, -1, True, None]:
                with self.assertRaises(BadThing):
                    function(plan_of_402(), thing)

    def test_things_of_the_plan(self):
        for many in (1, 2, 3):
            plan = Plan(Book(2, 1, ((G,),)), 1, (("kept", X),) * many)
            for thing in range(4):
                if thing < many:
                    self.assertIs(is_steady(plan, thing), True)
                else:
                    with self.assertRaises(BadThing):
                        judge(plan, thing)
                    with self.assertRaises(BadThing):
                        Steady([]).shows(plan, thing)


if __name__ == "__main__":
    unittest.main()
