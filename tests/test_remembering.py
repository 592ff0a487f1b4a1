import unittest
from functools import lru_cache
from itertools import product
from random import Random

from keptmeanings.books import Book
from keptmeanings.errors import BadDeed, BadForget, BadPlan, BadRun, BadScene, BadSetting, TooLarge
from keptmeanings.forms import Form
from keptmeanings.plans import Plan
from keptmeanings.remembering import (Fresh, Stale, first_scene, is_fresh, recall, scene_after, soonest_stale,
                                      told_along)
from tests.samples import G, S, X, example_plan, few_plans, made_plans, mixed_plan
from tests.sessions import (SessionReading, all_rules, plan_of_400, plan_of_401, rules_of, session_plans, sessions,
                            telling_plans)
from tests.support import (Hostile, assert_equal_by_attributes, assert_errors_in_order, assert_no_other_equal,
                           wrong_values)

NONE = (None, None)


def small_plan():
    """The plan of the example of the interface: a free function, and one that calls it."""
    return Plan(Book(2, 1, ((G, 1 - G), (G.by(0),))), 1, (("kept", X.by(1)),), free=(0,))


def some_scenes(reading, random, many):
    """Scenes that come about, and others, most of which cannot come about."""
    remembered = [None, *range(reading.base)]
    found = random.sample(reading.scenes(60), min(many, len(reading.scenes(60))))
    for _ in range(many):
        memory = tuple(tuple(random.choice(remembered) for _ in range(reading.base)) for _ in reading.functions)
        found.append((random.choice(reading.wordings()), memory))
    return found


@lru_cache(None)
def all_recalled():
    """Quadruples of a plan, its reading, the arguments behind the plan, and what recall tells, of few scenes."""
    readings = [(plan, SessionReading(plan, *arguments), tuple(arguments)) for plan, *arguments in sessions(92, 3)]
    small = [triple for triple in readings if len(triple[1].scenes()) <= 400]
    return [(plan, reading, arguments, recall(plan, *arguments)) for plan, reading, arguments in small]


def recalled(kind):
    return [quadruple for quadruple in all_recalled() if isinstance(quadruple[3], kind)]


class TestScenes(unittest.TestCase):
    def test_first_scene(self):
        for plan in session_plans():
            self.assertEqual(first_scene(plan), SessionReading(plan, 0, ()).start)
        self.assertEqual(first_scene(small_plan()), ((0, 0), (NONE, NONE)))

    def test_all_deeds(self):
        random = Random(93)
        for plan, setting, rule in sessions(94):
            reading = SessionReading(plan, setting, rule)
            for scene in some_scenes(reading, random, 6):
                for deed in reading.scene_deeds():
                    pair = scene_after(plan, setting, rule, scene, deed)
                    self.assertEqual(pair, reading.scene_after(scene, deed))
                    self.assertEqual(pair[1] is None, deed[0] == "put")

    def test_what_is_remembered_is_told(self):
        plan = small_plan()
        scene = ((0, 0), ((1, None), (None, 0)))
        self.assertEqual(scene_after(plan, 0, (), scene, ("ask", 0, 0)), (scene, 1))
        self.assertEqual(scene_after(plan, 0, (), scene, ("ask", 1, 1)), (scene, 0))
        # The call within is a call in this sense, too: what is remembered is told, and what is told is remembered.
        self.assertEqual(scene_after(plan, 0, (), scene, ("ask", 1, 0)), (((0, 0), ((1, None), (1, 0))), 1))
        self.assertEqual(scene_after(plan, 0, (), ((1, 0), (NONE, NONE)), ("ask", 1, 0)),
                         (((1, 0), ((1, None), (1, None))), 1))
        self.assertEqual(scene_after(plan, 0, (), scene, ("ask", 0, 1)), (((0, 0), ((1, 1), (None, 0))), 1))

    def test_only_what_is_needed_is_gone_through(self):
        # The second function calls the first one for 0 only if it is given 1, and for 1 otherwise.
        book = Book(2, 1, ((G,), (G.then(Form.number(0).by(0), Form.number(1).by(0)),), (G.by(1).then(G, G.by(0)),)))
        plan = Plan(book, 1, (("kept", X),))
        start = first_scene(plan)
        told = [scene_after(plan, 0, (), start, ("ask", 1, n)) for n in range(2)]
        self.assertEqual(told, [(((0, 0, 0), ((None, 1), (1, None), NONE)), 1),
                                (((0, 0, 0), ((0, None), (None, 0), NONE)), 0)])
        # The test of the third one is called whatever follows.
        self.assertEqual(scene_after(plan, 0, (), start, ("ask", 2, 0))[0][1], ((None, 1), (1, None), (0, None)))
        self.assertEqual(scene_after(plan, 0, (), start, ("ask", 2, 1))[0][1], ((0, 1), (None, 0), (None, 1)))

    def test_both_of_two_are_gone_through(self):
        one, zero = Form.number(1), Form.number(0)
        for form in (zero.by(0) * one.by(0), zero.by(0) + one.by(0), zero.by(0) - one.by(0),
                     zero.by(0).same(one.by(0))):
            plan = Plan(Book(2, 1, ((G,), (form,))), 1, (("kept", X),))
            self.assertEqual(scene_after(plan, 0, (), first_scene(plan), ("ask", 1, 0))[0][1][0], (0, 1))

    def test_the_setting_of_the_session(self):
        plan = Plan(Book(3, 3, ((G + S,), (G.by(0) * S,))), 1, (("kept", X),), writers=(0,), askers=(1,))
        self.assertEqual([scene_after(plan, setting, (), first_scene(plan), ("ask", 1, 2))[1]
                          for setting in range(3)], [0, 0, 2])

    def test_forgetting(self):
        plan = Plan(Book(2, 1, ((G, 1 - G), (G, G), (G,))), 1, (("kept", X),), free=(0, 1))
        memory = ((0, 1), (1, 0), (None, 1))
        for rule, function, left in [
                ((), 0, memory), (((0, 0),), 0, (NONE, *memory[1:])), (((0, 0),), 1, memory),
                (((0, 2), (1, 1)), 0, (*memory[:2], NONE)), (((0, 2), (1, 1)), 1, (memory[0], NONE, memory[2])),
                (((0, 0), (0, 1), (0, 2), (1, 0)), 0, (NONE, NONE, NONE)), (((2, 0), (2, 1)), 0, memory)]:
            for body in range(2):
                wording = (body, 0, 0) if function == 0 else (0, body, 0)
                # Also if a body is put that is there already.
                self.assertEqual(scene_after(plan, 0, rule, ((0, 0, 0), memory), ("put", function, body)),
                                 ((wording, left), None))

    def test_told_along(self):
        random = Random(95)
        for plan, setting, rule in sessions(96):
            reading = SessionReading(plan, setting, rule)
            run = [random.choice(reading.scene_deeds()) for _ in range(25)]
            scene, expected = reading.start, []
            for deed in run:
                scene, told = reading.scene_after(scene, deed)
                expected.append(told)
            self.assertEqual(told_along(plan, setting, rule, run), expected)
            self.assertEqual(told_along(plan, setting, rule, tuple(run)), expected)
            self.assertEqual((told_along(plan, setting, rule, []), told_along(plan, setting, rule, ())), ([], []))

    def test_a_hundred_deeds(self):
        plan = small_plan()
        deed = ("ask", 1, 1)
        for kind in (list, tuple):
            self.assertEqual(told_along(plan, 0, (), kind([deed] * 100)), [1] * 100)
            for many in (101, 102, 1000):
                self.assert_index(None, plan, kind([deed] * many))
            self.assert_index(None, plan, kind([None] * 101))
            self.assert_index(99, plan, kind([deed] * 99 + [None]))

    def assert_index(self, index, plan, run):
        with self.assertRaises(BadRun) as caught:
            told_along(plan, 0, (), run)
        self.assertEqual(caught.exception.index, index)

    def test_the_first_wrong_deed(self):
        plan = small_plan()
        ask, put = ("ask", 1, 1), ("put", 0, 1)
        for value in [*wrong_values(), ("ask", 2, 0), ("ask", 0, 2), ("ask", 0), ("ask", 0, 0, 0), ("ask", True, 0),
                      ("ask", 0, False),
                      ["ask", 0, 0], ("put", 1, 0), ("put", 0, 2), ("put", 0, True), ("ask", -1, 0), ("build", 0, 0),
                      ("write", (0,), 0),
                      (b"ask", 0, 0), ("Ask", 0, 0), ("ask", Hostile(), 0), ("ask", 0, Hostile()), (Hostile(), 0, 0),
                      ("ask", (0,), 0)]:
            self.assert_index(0, plan, [value])
            self.assert_index(2, plan, (ask, put, value))
            self.assert_index(1, plan, [put, value, value, ask])
        for value in [*wrong_values(), {0: ask}, iter([ask]), "ask", {ask}, X, plan, Hostile()]:
            if not isinstance(value, (list, tuple)):
                self.assert_index(None, plan, value)
        self.assert_index(0, plan, ("ask", 0, 0))

    def test_lists_are_new_and_not_modified(self):
        plan, run = small_plan(), [("ask", 1, 0), ("put", 0, 1), ("ask", 1, 0)]
        told = told_along(plan, 0, (), run)
        self.assertEqual((told, run), ([0, None, 0], [("ask", 1, 0), ("put", 0, 1), ("ask", 1, 0)]))
        told.clear()
        self.assertEqual(told_along(plan, 0, (), run), [0, None, 0])

    def test_example_of_the_interface(self):
        given = Form.given()
        plan = Plan(Book(2, 1, ((given, 1 - given), (given.by(0),))), 1, (('kept', Form.column(0).by(1)),), free=(0,))
        run = [('ask', 1, 0), ('put', 0, 1), ('ask', 0, 0), ('ask', 1, 0)]
        told = [first_scene(plan), scene_after(plan, 0, (), first_scene(plan), ('ask', 1, 1))[0],
                [told_along(plan, 0, rule, run) for rule in ((), ((0, 0),), ((0, 0), (0, 1)))],
                [soonest_stale(plan, 0, rule) for rule in ((), ((0, 0),))], is_fresh(plan, 0, ((0, 0), (0, 1))),
                Stale(run).shows(plan, 0, ((0, 0),))]
        self.assertEqual(told, [((0, 0), ((None, None), (None, None))), ((0, 0), ((None, 1), (None, 1))),
                                [[0, None, 0, 0], [0, None, 1, 0], [0, None, 1, 1]], [3, 3], True, True])


class TestRecall(unittest.TestCase):
    def test_all_verdicts(self):
        seen = {}
        for plan, reading, arguments, told in all_recalled():
            least = reading.soonest_stale()
            self.assertIs(told.__class__, Fresh if least is None else Stale)
            self.assertEqual(soonest_stale(plan, *arguments), least)
            self.assertIs(is_fresh(plan, *arguments), least is None)
            self.assertIs(told.shows(plan, *arguments), True)
            if least is None:
                self.assertTrue(reading.closed(told.scenes))
            else:
                self.assertEqual(len(told.deeds), least)
                self.assertTrue(reading.stale_at_last(told.deeds))
            seen[least] = seen.get(least, 0) + 1
        self.assertTrue(seen[None] > 40 and seen[3] > 20, seen)

    def test_all_rules(self):
        fresh = 0
        for plan in telling_plans():
            if len(plan.book) <= 2 and plan.book.base == 2:
                for setting, rule in product(range(plan.book.settings), all_rules(plan)):
                    least = SessionReading(plan, setting, rule).soonest_stale()
                    self.assertEqual(soonest_stale(plan, setting, rule), least)
                    fresh += least is None
        self.assertGreater(fresh, 20)

    def test_later_stale(self):
        # What is wrong comes about only by a redefinition that changes nothing at first.
        book = Book(2, 1, ((G, 1 - G), (G * 0, G.by(0))))
        plan = Plan(book, 1, (("kept", X.by(1)),))
        self.assertEqual(soonest_stale(plan, 0, ((0, 0), (1, 1))), 4)
        self.assertEqual(soonest_stale(plan - [1], 0, ((0, 0), (1, 1))), None)
        self.assertEqual(soonest_stale(plan - [0], 0, ()), 3)
        self.assertEqual(soonest_stale(plan - [0, 1], 0, ()), None)

    def test_by_the_setting(self):
        book = Book(2, 2, ((G, G + S),))
        plan = Plan(book, 1, (("kept", X),))
        self.assertEqual([soonest_stale(plan, setting, ()) for setting in range(2)], [None, 3])

    def test_any_setting_of_the_book(self):
        plan = Plan(Book(3, 3, ((G, G + S * (S - 1)),)), 1, (("kept", X),), writers=(0,), askers=(1,))
        self.assertEqual([is_fresh(plan, setting, ()) for setting in range(3)], [True, True, False])

    def test_what_is_told_is_new(self):
        plan = small_plan()
        for rule in ((), ((0, 0), (0, 1))):
            one, other = recall(plan, 0, rule), recall(plan, 0, rule)
            self.assertIsNot(one, other)
            self.assertEqual(one, other)
            (one.deeds if rule == () else one.scenes).clear()
            self.assertNotEqual(one, other)
            self.assertEqual(recall(plan, 0, rule), other)

    def test_argument_names(self):
        plan, scene = small_plan(), first_scene(plan=small_plan())
        named = {"plan": plan, "setting": 0, "rule": ()}
        self.assertEqual(scene_after(**named, scene=scene, deed=("ask", 0, 0)),
                         scene_after(plan, 0, (), scene, ("ask", 0, 0)))
        self.assertEqual(told_along(**named, run=[]), [])
        self.assertEqual((recall(**named), is_fresh(**named), soonest_stale(**named)),
                         (recall(plan, 0, ()), False, 3))
        self.assertEqual((Fresh(scenes=[]).shows(**named), Stale(deeds=[]).shows(**named)), (False, False))


class TestTooLarge(unittest.TestCase):
    def assert_large(self, *arguments):
        for function in (recall, is_fresh, soonest_stale):
            with self.assertRaises(TooLarge):
                function(*arguments)

    def test_exactly_400(self):
        arguments = plan_of_400()
        reading = SessionReading(*arguments)
        self.assertEqual(len(reading.scenes(1000)), 400)
        self.assertEqual(soonest_stale(*arguments), reading.soonest_stale())
        self.assertIs(recall(*arguments).shows(*arguments), True)

    def test_more_than_400(self):
        arguments = plan_of_401()
        reading = SessionReading(*arguments)
        self.assertEqual(len(reading.scenes(1000)), 401)
        self.assert_large(*arguments)
        large = [one for one in sessions(97)[::4] if len(SessionReading(*one).scenes()) > 400]
        self.assertGreater(len(large), 8)
        for one in large:
            self.assert_large(*one)

    def test_where_a_stale_ask_would_be_met_sooner(self):
        book = Book(3, 3, ((G, 1 - G, S), (G, G * G, S), (G, S)))
        plan = Plan(book, 1, (("kept", X),))
        self.assertIs(Stale([("ask", 0, 0), ("put", 0, 1), ("ask", 0, 0)]).shows(plan, 0, ()), True)
        self.assert_large(plan, 0, ())
        every = tuple(product(range(3), repeat=2))
        self.assert_large(plan, 0, every)
        # One function that cannot be redefined is recalled in all ways in which numbers can be remembered.
        self.assertEqual(len(recall(Plan(Book(3, 1, ((G,), (G,))), 1, (("kept", X),)), 0, ()).scenes), 64)

    def test_evidence_may_be_larger(self):
        plan = Plan(Book(3, 1, ((G,), (G,), (G,))), 1, (("kept", X),))
        self.assert_large(plan, 0, ())
        scenes = SessionReading(plan, 0, ()).scenes(1000)
        self.assertEqual(len(scenes), 512)
        self.assertIs(Fresh(scenes).shows(plan, 0, ()), True)
        self.assertIs(Fresh(scenes[:-1]).shows(plan, 0, ()), False)
        self.assertIs(Stale([("ask", 0, 0)]).shows(plan, 0, ()), False)


class TestShowsFresh(unittest.TestCase):
    def test_any_order_and_more_than_once(self):
        for plan, _, arguments, told in recalled(Fresh)[::6]:
            scenes = told.scenes
            for changed in (scenes[::-1], scenes + scenes, scenes[1:] + scenes[:1]):
                self.assertIs(Fresh(changed).shows(plan, *arguments), True)

    def test_left_out(self):
        for plan, _, arguments, told in recalled(Fresh)[::2]:
            self.assertIs(Fresh([]).shows(plan, *arguments), False)
            for at in range(0, len(told.scenes), 1 + len(told.scenes) // 8):
                self.assertIs(Fresh(told.scenes[:at] + told.scenes[at + 1:]).shows(plan, *arguments), False)

    def test_put_in(self):
        seen, random = {True: 0, False: 0}, Random(98)
        for plan, reading, arguments, told in recalled(Fresh)[::2]:
            for scene in some_scenes(reading, random, 3):
                changed = [scene] + told.scenes
                shown = Fresh(changed).shows(plan, *arguments)
                self.assertIs(shown, reading.closed(changed))
                seen[shown] += 1
        self.assertTrue(seen[True] > 20 and seen[False] > 20, seen)

    def test_scenes_that_cannot_come_about(self):
        # A call always remembers what is called within it, but a scene may be listed in which it is forgotten.
        plan = Plan(Book(2, 1, ((G,), (G.by(0),))), 1, (("kept", X),), free=())
        told = recall(plan, 0, ())
        self.assertEqual(len(told.scenes), 9)
        everything = [((0, 0), memory) for memory in product(product((None, 0), (None, 1)), repeat=2)]
        self.assertEqual(len(everything), 16)
        self.assertIs(Fresh(everything).shows(plan, 0, ()), True)
        self.assertIs(Fresh(everything[:-1]).shows(plan, 0, ()), False)
        self.assertIs(Fresh([*everything, ((0, 0), ((1, 1), (0, 1)))]).shows(plan, 0, ()), False)

    def test_no_scenes(self):
        for plan, _, arguments, told in recalled(Fresh)[:12]:
            wording, memory = first_scene(plan)
            for wrong in [(wording,), (wording, None), (wording + (0,), memory), ((9,) * len(wording), memory),
                          (wording, memory[1:]),
                          ((False,) * len(wording), memory), (wording, memory + memory[:1]),
                          (wording, (memory[0][1:], *memory[1:])),
                          (wording, ((3,) * plan.book.base, *memory[1:])),
                          (wording, ((False,) * plan.book.base, *memory[1:])),
                          (wording, (None,) * len(memory)), (wording, list(memory)), None,
                          (wording, ((-1,) * plan.book.base, *memory[1:]))]:
                self.assertIs(Fresh(told.scenes + [wrong]).shows(plan, *arguments), False)
                self.assertIs(Fresh([wrong] + told.scenes).shows(plan, *arguments), False)

    def test_of_other_rules_and_settings(self):
        for plan, _, (setting, rule), told in recalled(Fresh)[::4]:
            for other in rules_of(plan, Random(99), 2):
                for other_setting in range(plan.book.settings):
                    reading = SessionReading(plan, other_setting, other)
                    self.assertIs(told.shows(plan, other_setting, other), reading.closed(told.scenes))

    def test_never_for_a_stale_one(self):
        for plan, reading, arguments, _ in recalled(Stale)[::40]:
            self.assertIs(Fresh(reading.scenes()).shows(plan, *arguments), False)

    def test_current_attributes_and_copies(self):
        plan, rule = small_plan(), ((0, 0), (0, 1))
        scenes = recall(plan, 0, rule).scenes
        told = Fresh(scenes)
        kept = scenes.pop()
        self.assertIs(told.shows(plan, 0, rule), True)
        told.scenes = scenes
        self.assertIs(told.shows(plan, 0, rule), False)
        told.scenes.append(kept)
        self.assertIs(told.shows(plan, 0, rule), True)
        self.assertEqual((Fresh(()).scenes, Stale(()).deeds), ([], []))


class TestShowsStale(unittest.TestCase):
    def test_changed(self):
        seen = {True: 0, False: 0}
        for plan, reading, arguments, told in recalled(Stale)[::2]:
            deeds = told.deeds
            changed = [[], deeds, deeds[::-1], deeds + deeds]
            for at in range(len(deeds)):
                changed += [deeds[:at] + deeds[at + 1:], deeds[:at + 1] + deeds[at:], deeds[:at]]
                changed += [deeds[:at] + [deed] + deeds[at:] for deed in reading.scene_deeds()]
            changed += [deeds + [deed] for deed in reading.scene_deeds()]
            for run in changed:
                expected = reading.stale_at_last(run)
                self.assertIs(Stale(run).shows(plan, *arguments), expected)
                seen[expected] += 1
        self.assertTrue(min(seen.values()) > 300, seen)

    def test_the_last_deed_alone(self):
        plan, run = small_plan(), [("ask", 1, 0), ("put", 0, 1), ("ask", 1, 0)]
        self.assertIs(Stale(run).shows(plan, 0, ()), True)
        self.assertIs(Stale(run + [("ask", 1, 1)]).shows(plan, 0, ()), False)
        self.assertIs(Stale(run + [("put", 0, 1)]).shows(plan, 0, ()), False)
        self.assertIs(Stale(run + [("put", 0, 1), ("ask", 1, 0)]).shows(plan, 0, ()), True)
        for rule, expected in [(((0, 0),), True), (((0, 1),), True), (((0, 0), (0, 1)), False),
                               (((1, 0), (1, 1)), True)]:
            self.assertIs(Stale(run).shows(plan, 0, rule), expected)

    def test_a_hundred_deeds(self):
        plan, run = small_plan(), [("ask", 1, 0), ("put", 0, 1), ("ask", 1, 0)]
        for many, expected in [(97, True), (98, False), (96, True)]:
            self.assertIs(Stale([("put", 0, 0)] * many + run).shows(plan, 0, ()), expected)

    def test_deeds_that_are_none(self):
        plan, run = small_plan(), [("ask", 1, 0), ("put", 0, 1), ("ask", 1, 0)]
        for wrong in [("ask", 2, 0), ("ask", 1, 2), ("ask", 1, False), ("ask", True, 0), ("ask", 1), (),
                      ("put", 1, 0), ("put", 0, 2),
                      ("put", 0, True), ("build", 0, 0), ("write", (0,), 0), (0, 0, 0), None, Hostile(),
                      ["ask", 1, 0]]:
            for changed in ([wrong] + run, run + [wrong], run[:1] + [wrong] + run[1:], run[:2] + [wrong]):
                self.assertIs(Stale(changed).shows(plan, 0, ()), False)

    def test_current_attributes_and_copies(self):
        plan, run = small_plan(), [("ask", 1, 0), ("put", 0, 1), ("ask", 1, 0)]
        told = Stale(run)
        run.clear()
        self.assertIs(told.shows(plan, 0, ()), True)
        last = told.deeds.pop()
        self.assertIs(told.shows(plan, 0, ()), False)
        told.deeds.append(last)
        self.assertIs(told.shows(plan, 0, ()), True)
        told.deeds = []
        self.assertIs(told.shows(plan, 0, ()), False)


class TestEqual(unittest.TestCase):
    def test_attributes(self):
        scene = ((0,), (NONE,))
        made = [(Fresh, ([],)), (Fresh, ([scene],)), (Fresh, ([scene, scene],)), (Stale, ([],)),
                (Stale, ([("ask", 0, 0)],)),
                (Stale, ([("ask", 0, 1)],))]
        assert_equal_by_attributes(self, made)

    def test_not_equal_to_other_classes(self):
        plan = example_plan()
        assert_no_other_equal(self, [Fresh([]), Stale([])], [plan, plan.book, X])


class TestErrors(unittest.TestCase):
    def setUp(self):
        self.plan = mixed_plan()
        self.no_plans = [None, *wrong_values()[::4], self.plan.book, X, Plan, Hostile()]
        self.no_settings = [2, *wrong_values()[::3], True, False, -1, "0", Hostile()]
        self.no_rules = [None, *[value for value in wrong_values() if value.__class__ is not tuple or len(value)],
                         [(0, 0)], [], {(0, 0): 1},
                         (0, 0), ((0, 0), (0, 0)), ((0, 1), (0, 0)), ((1, 0), (0, 1)), ((0, 2),), ((2, 0),),
                         ((-1, 0),), ((0, True),),
                         ((False, 0),), ((0,),), ((0, 0, 0),), ([0, 0],), ((0, 0), None), ((0, Hostile()),),
                         (Hostile(),), Hostile()]

    def no_scenes(self):
        wording, memory = (0, 0), (NONE, NONE)
        return [None, *wrong_values()[::3], wording, (wording,), (wording, memory, ()), [wording, memory],
                ((0,), memory), ((3, 0), memory),
                ((0, 1), memory), ((0, False), memory), (None, memory), (wording, None), (wording, NONE),
                (wording, (NONE,)),
                (wording, (NONE, NONE, NONE)), (wording, [NONE, NONE]), (wording, (NONE, None)),
                (wording, (NONE, (None,))),
                (wording, (NONE, (None, None, None))), (wording, (NONE, (None, 2))), (wording, (NONE, (None, -1))),
                (wording, ((True, None), NONE)), (wording, (NONE, (0, False))), (wording, (NONE, [None, None])),
                (wording, ((0, "0"), NONE)),
                (wording, Hostile()), (Hostile(), memory), (wording, (NONE, (None, Hostile())))]

    def test_scenes(self):
        plan = self.plan
        no_deeds = [None, *wrong_values()[::3], ("ask", 2, 0), ("ask", 0, 2), ("ask", -1, 0), ("ask", 0),
                    ("ask", 0, 0, 0), ["ask", 0, 0],
                    ("ask", True, 0), ("ask", 0, False), ("put", 1, 0), ("put", 0, 3), ("put", 0, True), ("put", 0),
                    ("build", 0, 1),
                    ("write", (0, 1), 1), ("take", 0), (0, 0, 0), ("ask", Hostile(), 0), (Hostile(), 0, 0), Hostile()]
        assert_errors_in_order(self, first_scene, (plan,), [(0, BadPlan, self.no_plans)])
        scene = ((2, 0), ((1, None), (None, 0)))
        for deed in [("ask", 1, 1), ("put", 0, 2)]:
            assert_errors_in_order(self, scene_after, (plan, 0, ((0, 0), (1, 0)), scene, deed), [
                (0, BadPlan, self.no_plans), (1, BadSetting, self.no_settings), (2, BadForget, self.no_rules),
                (3, BadScene, self.no_scenes()),
                (4, BadDeed, no_deeds)])

    def test_runs_and_verdicts(self):
        plan = Plan(Book(2, 2, ((G, S), (G.by(0),))), 1, (("kept", X),), free=(0,))
        checks = [(0, BadPlan, self.no_plans), (1, BadSetting, self.no_settings), (2, BadForget, self.no_rules)]
        no_runs = [None, 0, "", {}, [None], [("put", 0, 2)], [("ask", 0, 0)] * 101, ("ask", 0, 0), [("put", 1, 0)],
                   Hostile()]
        good = (plan, 1, ((0, 0), (0, 1), (1, 0)))
        assert_errors_in_order(self, told_along, (*good, [("ask", 0, 0)]), [*checks, (3, BadRun, no_runs)])
        for function in (recall, is_fresh, soonest_stale, Fresh([]).shows, Stale([]).shows, Fresh([None]).shows,
                         Stale([None]).shows):
            assert_errors_in_order(self, function, good, checks)

    def test_wrong_arguments_ahead_of_too_large(self):
        plan, setting, rule = plan_of_401()
        for function in (recall, is_fresh, soonest_stale):
            with self.assertRaises(BadForget):
                function(plan, setting, rule[::-1])
            with self.assertRaises(BadSetting):
                function(plan, 2, rule[::-1])

    def test_rules(self):
        for plan in few_plans() + made_plans(99, 10):
            functions = len(plan.book)
            for one, other in product(range(-1, 4), repeat=2):
                if 0 <= one < functions and 0 <= other < functions:
                    self.assertEqual(told_along(plan, 0, ((one, other),), []), [])
                else:
                    with self.assertRaises(BadForget):
                        told_along(plan, 0, ((one, other),), [])


if __name__ == "__main__":
    unittest.main()
