import unittest
from itertools import product

from keptmeanings.books import Book
from keptmeanings.errors import BadBody, BadFunction, BadPlan, BadThing, BadWording
from keptmeanings.forms import Form
from keptmeanings.harmless import Harmful, Harmless, harmless_things, leans, weigh
from keptmeanings.plans import Plan
from tests.reading import Reading
from tests.samples import G, K, S, X, Y, example_plan, few_plans, made_plans, mixed_plan, three_plan
from tests.support import (Hostile, assert_equal_by_attributes, assert_errors_in_order, assert_no_other_equal,
                           wrong_values)

PLANS = few_plans() + made_plans(31, 120)


def redefinitions(reading):
    """All triples of a wording, a function and a body."""
    return [(wording, k, body) for wording in reading.wordings()
            for k, bodies in enumerate(reading.functions) for body in range(len(bodies))]


def put(wording, function, body):
    return tuple(body if k == function else old for k, old in enumerate(wording))


def pairs_as_told(reading, wording, function, body, thing):
    after = put(wording, function, body)
    return {(row, asker): (reading.plain(thing, wording, asker, row), reading.plain(thing, after, asker, row))
            for row in reading.rows for asker in reading.askers}


def harmed(mode, before, after):
    return before != after and (mode != "check" or after == 0)


def harmed_places(reading, pairs, thing):
    return [place for place, pair in pairs.items() if harmed(reading.modes[thing], *pair)]


def weighed(kind, most=100):
    """Quintuples of arguments and what weigh tells of them, where it tells one of this kind."""
    found = []
    for plan in PLANS:
        reading = Reading(plan)
        for at, redefinition in enumerate(redefinitions(reading)[::5]):
            thing = at % len(plan)
            told = weigh(plan, *redefinition, thing)
            if isinstance(told, kind):
                found.append((plan, reading, (*redefinition, thing), told))
    return found[::1 + len(found) // most]


class TestWeigh(unittest.TestCase):
    def test_all_redefinitions(self):
        seen = {Harmless: 0, Harmful: 0}
        for plan in PLANS:
            reading = Reading(plan)
            for redefinition in redefinitions(reading):
                unharmed = []
                for thing in reading.things:
                    pairs = pairs_as_told(reading, *redefinition, thing)
                    places = harmed_places(reading, pairs, thing)
                    told = weigh(plan, *redefinition, thing)
                    self.assertIs(told.shows(plan, *redefinition, thing), True)
                    seen[told.__class__] += 1
                    if places:
                        self.assertIs(told.__class__, Harmful)
                        self.assertIn((told.row, told.asker), places)
                    else:
                        self.assertEqual(list(told.pairs.items()), list(pairs.items()))
                        self.assertEqual(told, Harmless(pairs))
                        unharmed.append(thing)
                self.assertEqual(harmless_things(plan, *redefinition), unharmed)
        self.assertGreater(min(seen.values()), 300)

    def test_pairs_in_order(self):
        for plan in (mixed_plan(), three_plan()):
            told = weigh(plan, (0, 0), 0, 0, 0)
            self.assertEqual(list(told.pairs), sorted(told.pairs))
            self.assertEqual(list(told.pairs), list(product(plan.rows(), plan.askers)))

    def test_functions_that_are_not_free(self):
        plan = example_plan()
        fixed = plan - [0]
        self.assertEqual(weigh(fixed, (0,), 0, 1, 0), Harmful((0,), 0))
        self.assertEqual((harmless_things(fixed, (0,), 0, 1), leans(fixed)),
                         (harmless_things(plan, (0,), 0, 1), leans(plan)))
        self.assertEqual(leans(fixed), [(0, 0), (1, 0), (2, 0)])

    def test_a_check_is_harmed_by_0_alone(self):
        numbers = tuple(Form.number(n) for n in range(3))
        plan = Plan(Book(3, 1, (numbers,)), 1, (("check", X.by(0)), ("kept", X.by(0)), ("again", X.by(0))))
        for before, after in product(range(3), repeat=2):
            told = [thing in harmless_things(plan, (before,), 0, after) for thing in range(3)]
            self.assertEqual(told, [before == 0 or after != 0, before == after, before == after])

    def test_by_askers_alone(self):
        book = Book(2, 2, ((G, G + S),))
        for askers, unharmed in [((0,), [0]), ((1,), []), ((0, 1), [])]:
            plan = Plan(book, 1, (("kept", X.by(0)),), askers=askers, writers=(1,))
            self.assertEqual(harmless_things(plan, (0,), 0, 1), unharmed)
            self.assertEqual(leans(plan), [] if unharmed else [(0, 0)])

    def test_what_is_told_is_new(self):
        plan = example_plan()
        told = weigh(plan, (0,), 0, 0, 0)
        told.pairs.clear()
        self.assertEqual(weigh(plan, (0,), 0, 0, 0).pairs, {((0,), 0): (0, 0), ((1,), 0): (1, 1)})
        self.assertIsNot(weigh(plan, (0,), 0, 1, 0), weigh(plan, (0,), 0, 1, 0))
        for function in (lambda: harmless_things(plan, (0,), 0, 0), lambda: leans(plan)):
            first = function()
            expected = list(first)
            first.clear()
            self.assertEqual(function(), expected)

    def test_example_of_the_interface(self):
        given, x = Form.given(), Form.column(0).by(0)
        plan = Plan(Book(3, 1, ((given * given, given.then(1, 0), given),)), 1, (('kept', x), ('check', x)))
        told = [harmless_things(plan, (0,), 0, 1), harmless_things(plan, (0,), 0, 2),
                weigh(plan, (0,), 0, 2, 0) == Harmful((2,), 0), weigh(plan, (0,), 0, 2, 1).pairs, leans(plan),
                plan.names(1)]
        self.assertEqual(told, [[0, 1], [1], True, {((0,), 0): (0, 0), ((1,), 0): (1, 1), ((2,), 0): (1, 2)},
                                [(0, 0)], [0]])

    def test_argument_names(self):
        plan = example_plan()
        self.assertEqual(weigh(plan=plan, wording=(0,), function=0, body=1, thing=2), weigh(plan, (0,), 0, 1, 2))
        self.assertEqual(harmless_things(plan=plan, wording=(0,), function=0, body=0), [0, 1, 2])
        self.assertEqual(leans(plan=plan), leans(plan))
        self.assertTrue(weigh(plan, (0,), 0, 1, 2).shows(plan=plan, wording=(0,), function=0, body=1, thing=2))
        self.assertTrue(weigh(plan, (0,), 0, 0, 2).shows(plan=plan, wording=(0,), function=0, body=0, thing=2))
        self.assertEqual((Harmless(pairs={}), Harmful(row=(0,), asker=0)), (Harmless({}), Harmful((0,), 0)))


class TestLeans(unittest.TestCase):
    def test_all_wordings_and_bodies(self):
        many = 0
        for plan in PLANS:
            reading = Reading(plan)
            expected = {(thing, k) for thing in reading.things for wording, k, body in redefinitions(reading)
                        if harmed_places(reading, pairs_as_told(reading, wording, k, body, thing), thing)}
            self.assertEqual(leans(plan), sorted(expected))
            many += len(expected)
        self.assertGreater(many, 50)

    def test_names_each_function_on_which_it_leans(self):
        named_alone = 0
        for plan in PLANS + made_plans(32, 100):
            pairs = leans(plan)
            for thing in range(len(plan)):
                named = plan.names(thing)
                self.assertLessEqual({k for t, k in pairs if t == thing}, set(named))
                named_alone += len(named) - len([k for t, k in pairs if t == thing])
        self.assertGreater(named_alone, 20)

    def test_only_in_some_wording(self):
        # The first function matters only while the second one calls it, and the third one not at all.
        book = Book(2, 1, ((G, 1 - G), (G, G.by(0)), (G, G.by(1))))
        plan = Plan(book, 1, (("kept", X.by(1)), ("kept", K + X.by(0)), ("kept", K)))
        self.assertEqual(leans(plan), [(0, 0), (0, 1), (1, 0), (1, 1), (2, 0), (2, 1)])
        self.assertEqual(leans(Plan(book, 1, (("again", X.by(2)),))), [(0, 0), (0, 1), (0, 2)])
        # A change that can be made only in a wording that is far from the first one.
        book = Book(2, 1, ((G, Form.number(0)), (G.by(0), G), (G.by(1) * 0, G.by(0) - G.by(1))))
        self.assertEqual(leans(Plan(book, 1, (("kept", X.by(2)),))), [(0, 0), (0, 1), (0, 2)])

    def test_named_but_not_leaned_on(self):
        plan = Plan(Book(2, 1, ((G, 1 - G), (G.by(0) * 0,))), 1, (("kept", X.by(1)), ("check", X.by(0).then(1, 1))))
        self.assertEqual((leans(plan), plan.names(0), plan.names(1)), ([], [0, 1], [0]))


class TestHarmless(unittest.TestCase):
    def test_changed(self):
        for plan, _, arguments, told in weighed(Harmless):
            pairs, base = told.pairs, plan.book.base
            self.assertIs(Harmless(dict(reversed(list(pairs.items())))).shows(plan, *arguments), True)
            self.assertIs(Harmless({}).shows(plan, *arguments), False)
            for place, (before, after) in pairs.items():
                self.assertIs(Harmless({one: pairs[one] for one in pairs if one != place}).shows(plan, *arguments),
                              False)
                for pair in product(range(-1, base + 1), repeat=2):
                    self.assertIs(Harmless({**pairs, place: pair}).shows(plan, *arguments), pair == (before, after))
                for pair in [(before,), (before, after, 0), (), [before, after], (None, after), None, before,
                             (before == 1, after), (before, after == 1), (bool(before), bool(after))]:
                    self.assertIs(Harmless({**pairs, place: pair}).shows(plan, *arguments), False)

    def test_put_in(self):
        plan, arguments = example_plan(), ((0,), 0, 0, 0)
        pairs = weigh(plan, *arguments).pairs
        for place in [((0,), 1), ((2,), 0), ((0, 0), 0), ((), 0), ((0,), -1), ((0,),), ((0,), 0, 0), (0, 0), 0, None,
                      ((-1,), 0), ("", 0)]:
            self.assertIs(Harmless({**pairs, place: (0, 0)}).shows(plan, *arguments), False)
        self.assertIs(Harmless({((False,), 0): (0, 0), ((1,), 0): (1, 1)}).shows(plan, *arguments), False)
        self.assertIs(Harmless({((0,), False): (0, 0), ((1,), 0): (1, 1)}).shows(plan, *arguments), False)
        self.assertIs(Harmless({((0,), 0): (0, 0), ((1,), 0): (1, 1)}).shows(plan, *arguments), True)
        askers = Plan(Book(3, 3, ((G,),)), 1, (("kept", X),), askers=(0, 2))
        pairs = weigh(askers, *arguments).pairs
        self.assertEqual(len(pairs), 6)
        self.assertIs(Harmless({**pairs, ((0,), 1): (0, 0)}).shows(askers, *arguments), False)

    def test_not_what_is_harmed(self):
        for plan, reading, arguments, _ in weighed(Harmful):
            self.assertIs(Harmless(pairs_as_told(reading, *arguments)).shows(plan, *arguments), False)

    def test_of_another_redefinition(self):
        plan = example_plan()
        told = weigh(plan, (0,), 0, 0, 2)
        self.assertIs(told.shows(plan, (1,), 0, 1, 2), False)
        self.assertIs(told.shows(plan, (0,), 0, 0, 1), True)
        self.assertIs(told.shows(plan, (0,), 0, 1, 2), False)

    def test_current_attributes_and_copies(self):
        plan, arguments = example_plan(), ((0,), 0, 0, 0)
        pairs = weigh(plan, *arguments).pairs
        told = Harmless(pairs)
        pairs.clear()
        self.assertIs(told.shows(plan, *arguments), True)
        kept = told.pairs.pop(((0,), 0))
        self.assertIs(told.shows(plan, *arguments), False)
        told.pairs[((0,), 0)] = kept
        self.assertIs(told.shows(plan, *arguments), True)
        told.pairs = {}
        self.assertIs(told.shows(plan, *arguments), False)


class TestHarmful(unittest.TestCase):
    def test_all_rows_and_askers(self):
        shown = 0
        for plan, reading, arguments, _ in weighed(Harmful):
            places = harmed_places(reading, pairs_as_told(reading, *arguments), arguments[3])
            for row in product(range(-1, 4), repeat=plan.columns):
                for asker in range(-1, 4):
                    expected = (row, asker) in places
                    self.assertIs(Harmful(row, asker).shows(plan, *arguments), expected)
                    shown += expected
        self.assertGreater(shown, 40)

    def test_no_rows_and_no_askers(self):
        plan, arguments = example_plan(), ((0,), 0, 1, 0)
        self.assertIs(Harmful((1,), 0).shows(plan, *arguments), True)
        for row, asker in [((True,), 0), ((1,), False), ((1, 1), 0), ((), 0), (1, 0), (None, 0), ((1,), None),
                           ([1], 0),
                           ((1,), (0,)), ((9,), 0), ((1,), 9), (Hostile(), 0), ((1,), Hostile()), ((Hostile(),), 0)]:
            self.assertIs(Harmful(row, asker).shows(plan, *arguments), False)

    def test_current_attributes(self):
        plan = Plan(Book(3, 2, ((G, G.then(G.same(2), 0) + S),)), 1, (("check", X.by(0)),), askers=(0,))
        told = weigh(plan, (0,), 0, 1, 0)
        self.assertEqual(told, Harmful((1,), 0))
        told.row = (2,)
        self.assertIs(told.shows(plan, (0,), 0, 1, 0), False)
        told.row, told.asker = (1,), 1
        self.assertIs(told.shows(plan, (0,), 0, 1, 0), False)
        told.asker = 0
        self.assertIs(told.shows(plan, (0,), 0, 1, 0), True)


class TestEqual(unittest.TestCase):
    def test_attributes(self):
        place, other = ((0,), 0), ((1,), 0)
        made = [(Harmless, ({},)), (Harmless, ({place: (0, 0)},)), (Harmless, ({place: (0, 1)},)),
                (Harmless, ({other: (0, 0)},)), (Harmless, ({place: (0, 0), other: (0, 0)},)),
                (Harmful, ((0,), 0)), (Harmful, ((1,), 0)), (Harmful, ((0,), 1))]
        assert_equal_by_attributes(self, made)
        self.assertEqual(Harmless({place: (0, 0), other: (1, 1)}), Harmless({other: (1, 1), place: (0, 0)}))

    def test_not_equal_to_other_classes(self):
        plan = example_plan()
        assert_no_other_equal(self, [Harmless({}), Harmful((0,), 0)], [plan, plan.book, X])


class TestErrors(unittest.TestCase):
    def test_errors_in_order(self):
        book = Book(3, 2, ((G, S), (G, G + 1, G.by(0)), (G,)))
        plan = Plan(book, 2, (("kept", X), ("check", Y)), free=(0,), askers=(1,))
        checks = [
            (0, BadPlan, [*wrong_values()[::5], None, Hostile(), book, X, Plan, (plan,)]),
            (1, BadWording, [*wrong_values()[::4], (0, 0), (0, 0, 0, 0), (0, 3, 0), (2, 0, 0), [0, 0, 0],
                             (0, True, 0)]),
            (2, BadFunction, [3, *wrong_values()[::4], True, -1, "0", (0,), 1j, Hostile()]),
            (3, BadBody, [3, *wrong_values()[::4], True, -1, "0", (0,), Hostile()]),
            (4, BadThing, [2, *wrong_values()[::4], True, -1, "0", (0,), Hostile()]),
        ]
        good = (plan, (1, 2, 0), 1, 2, 1)
        place = ((0, 0), 1)
        for function in (weigh, Harmless({}).shows, Harmless({place: (0, 0)}).shows, Harmful((0, 0), 1).shows,
                         Harmful(None, None).shows):
            assert_errors_in_order(self, function, good, checks)
        assert_errors_in_order(self, harmless_things, good[:4], checks[:4])
        assert_errors_in_order(self, leans, (plan,), [(0, BadPlan, [*wrong_values(), book, X, Plan])])

    def test_bodies_of_the_function(self):
        plan = Plan(Book(2, 1, ((G,), (G, G, G))), 1, (("kept", X),))
        self.assertEqual(harmless_things(plan, (0, 0), 1, 2), [0])
        for function, body in [(0, 1), (0, 2), (1, 3)]:
            with self.assertRaises(BadBody):
                harmless_things(plan, (0, 0), function, body)


if __name__ == "__main__":
    unittest.main()
