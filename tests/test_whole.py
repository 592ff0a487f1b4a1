"""Point [1] over the whole program."""

import copy
import unittest
from itertools import product

from keptmeanings.books import Book
from keptmeanings.errors import MeaningError, NoRow
from keptmeanings.forgetting import Needed, is_enough, least_rule, need
from keptmeanings.harmless import Harmful, Harmless, harmless_things, leans, weigh
from keptmeanings.judging import Astray, Steady, count_states, is_steady, judge, soonest
from keptmeanings.once import Once, Twice, couple_after, couple_deeds, first_couple, first_twice, once
from keptmeanings.plans import Plan
from keptmeanings.probes import Probes, parted, places, probes, reach
from keptmeanings.remembering import Fresh, Stale, first_scene, is_fresh, recall, scene_after, soonest_stale, told_along
from keptmeanings.roads import NoRoad, Road, first_stand, is_good, road, road_price, stand_after, stand_deeds
from keptmeanings.rows import after, deeds, first_state, states_of, told, wrong_asks
from keptmeanings.tables import Table
from keptmeanings.texts import (read_book, read_form, read_history, read_plan, write_book, write_form, write_history,
                                write_plan)
from keptmeanings.values import passes, plain
from tests.samples import G, X, example_plan

PLAN = Plan(Book(2, 1, ((G, 1 - G), (G.by(0), G))), 1, (("kept", X.by(1)), ("check", X.by(0) + 1)), free=(0,))
PRICES = ((1, 2), (3, 4))
HISTORY = [("write", (0,), 0), ("put", 0, 1), ("build", 0, 0)]
RUN = [("ask", 1, 0), ("put", 0, 1), ("ask", 1, 0)]


def objects():
    """An object of each class, and a second one where there is another that is as empty."""
    return [
        G, X, PLAN.book, PLAN, Steady([]), Astray([], (0, 0, 0)), Harmless({}), Harmful((0,), 0), Road([], []),
        NoRoad([]), Probes([], {}),
        Once([]), Twice([], "twins"), Table(PLAN), Fresh([]), Stale([]), Needed((), {}), judge(PLAN, 0),
        judge(PLAN - [0], 0),
        weigh(PLAN, (0, 0), 0, 1, 0), weigh(PLAN, (0, 0), 0, 0, 0), road(PLAN, PRICES, (1, 0)),
        road(PLAN - [0], PRICES, (1, 0)),
        probes(PLAN, 0), once(PLAN, 0), once(PLAN - [0], 0), recall(PLAN, 0, ()), recall(PLAN - [0], 0, ()),
        need(PLAN, 0), NoRow("x"),
    ]


CALLS = {
    "wordings": lambda: PLAN.book.wordings(),
    "put": lambda: PLAN.book.put((0, 0), 0, 1),
    "table": lambda: PLAN.book.table((0, 0), 0, 1),
    "xor": lambda: PLAN.book ^ example_plan().book,
    "rows": lambda: PLAN.rows(),
    "names": lambda: PLAN.names(0),
    "plain": lambda: plain(PLAN, (0, 0), 0, (1,)),
    "passes": lambda: passes(PLAN, (0, 0), 0, (1,)),
    "deeds": lambda: deeds(PLAN, first_state(PLAN)),
    "after": lambda: after(PLAN, first_state(PLAN), HISTORY[0]),
    "states_of": lambda: states_of(PLAN, HISTORY),
    "told": lambda: told(PLAN, states_of(PLAN, HISTORY)[1], (0, 0, 0)),
    "wrong_asks": lambda: wrong_asks(PLAN, states_of(PLAN, HISTORY)[2]),
    "judge": lambda: judge(PLAN, 0),
    "steady": lambda: judge(PLAN - [0], 0),
    "counts": lambda: (is_steady(PLAN, 0), soonest(PLAN, 0), count_states(PLAN)),
    "weigh": lambda: weigh(PLAN, (0, 0), 0, 1, 0),
    "harmless": lambda: weigh(PLAN, (0, 0), 0, 0, 0),
    "harmless_things": lambda: harmless_things(PLAN, (0, 0), 0, 0),
    "leans": lambda: leans(PLAN),
    "stand_deeds": lambda: stand_deeds(PLAN, first_stand(PLAN)),
    "stand_after": lambda: stand_after(PLAN, first_stand(PLAN), ("shut", 0)),
    "is_good": lambda: is_good(PLAN, first_stand(PLAN)),
    "road": lambda: road(PLAN, PRICES, (1, 0)),
    "no road": lambda: road(PLAN - [0], PRICES, (1, 0)),
    "road_price": lambda: road_price(PLAN, PRICES, (1, 0)),
    "reach": lambda: reach(PLAN),
    "places": lambda: places(PLAN, 0),
    "parted": lambda: parted(PLAN, 0, places(PLAN, 0), (0, 0), (1, 0)),
    "probes": lambda: probes(PLAN, 0),
    "couple_deeds": lambda: couple_deeds(PLAN, first_couple(PLAN)),
    "couple_after": lambda: couple_after(PLAN, 0, first_couple(PLAN), ("put", 0, 1)),
    "twice": lambda: once(PLAN, 0),
    "once": lambda: once(PLAN - [0], 0),
    "first_twice": lambda: first_twice(PLAN, 0),
    "texts": lambda: (write_form(G), write_book(PLAN.book), write_plan(PLAN), write_history(PLAN, HISTORY)),
    "read_form": lambda: read_form("(g+1)"),
    "read_book": lambda: read_book(write_book(PLAN.book)),
    "read_plan": lambda: read_plan(write_plan(PLAN)),
    "read_history": lambda: read_history(PLAN, write_history(PLAN, HISTORY)),
    "scene_after": lambda: scene_after(PLAN, 0, (), first_scene(PLAN), RUN[0]),
    "told_along": lambda: told_along(PLAN, 0, (), RUN),
    "stale": lambda: recall(PLAN, 0, ()),
    "fresh": lambda: recall(PLAN - [0], 0, ()),
    "is_fresh": lambda: (is_fresh(PLAN, 0, ()), soonest_stale(PLAN, 0, ())),
    "need": lambda: need(PLAN, 0),
    "least_rule": lambda: (least_rule(PLAN, 0), is_enough(PLAN, 0, ())),
}


def held_in(value):
    """All lists and dicts in a value, and in the attributes of an object that is told with evidence."""
    if isinstance(value, dict):
        return [value, *[one for part in value.items() for one in held_in(part)]]
    if isinstance(value, (list, tuple)):
        return [value] * isinstance(value, list) + [one for part in value for one in held_in(part)]
    if hasattr(value, "shows"):
        return [one for part in vars(value).values() for one in held_in(part)]
    return []


class TestWhole(unittest.TestCase):
    def test_told_anew(self):
        for name, call in CALLS.items():
            first, expected = call(), call()
            self.assertEqual(first, expected, name)
            if hasattr(first, "shows"):
                self.assertIsNot(first, expected, name)
            for one, other in zip(held_in(first), held_in(expected)):
                self.assertIsNot(one, other, name)
            for one in held_in(first):
                one.clear()
            self.assertEqual(call(), expected, name)

    def test_nothing_is_kept_or_modified(self):
        forms = (G, 1 - G)
        lists = [[("write", (0,), 0), ("put", 0, 1)], [((0,), 0), ((1,), 0)], [("ask", 0, 0)], [0, 0]]
        before = copy.deepcopy(lists)
        states_of(PLAN, lists[0])
        write_history(PLAN, lists[0])
        parted(example_plan(), 0, lists[1], (0,), (1,))
        told_along(PLAN, 0, (), lists[2])
        self.assertEqual((PLAN | lists[3]).free, (0,))
        self.assertEqual((PLAN - lists[3]).free, ())
        self.assertEqual(lists, before)
        self.assertEqual(Book(2, 1, (forms,)).functions, ((G, 1 - G),))

    def test_evidence_copies_what_it_is_made_of(self):
        for kind, parts in [(Steady, ([1],)), (Astray, ([1], 2)), (Harmless, ({1: 2},)), (Road, ([1], [2])),
                            (NoRoad, ([1],)),
                            (Probes, ([1], {2: 3})), (Once, ([1],)), (Twice, ([1], "twins")), (Fresh, ([1],)),
                            (Stale, ([1],)),
                            (Needed, ((1,), {2: 3}))]:
            made, expected = kind(*parts), kind(*copy.deepcopy(parts))
            self.assertEqual(list(vars(made).values()), list(parts))
            for part in parts:
                if isinstance(part, (list, dict)):
                    part.clear()
            self.assertEqual(made, expected)
            self.assertEqual(vars(made), vars(expected))

    def test_shows_modifies_nothing(self):
        arguments = {Steady: (0,), Astray: (0,), Harmless: ((0, 0), 0, 0, 0), Harmful: ((0, 0), 0, 1, 0),
                     Road: (PRICES, (1, 0)),
                     NoRoad: (PRICES, (1, 0)), Probes: (0,), Once: (0,), Twice: (0,), Fresh: (0, ()), Stale: (0, ()),
                     Needed: (0,)}
        shown = []
        for one in objects():
            if hasattr(one, "shows"):
                before = copy.deepcopy(vars(one))
                for plan in (PLAN, PLAN - [0]):
                    shown.append(one.shows(plan, *arguments[one.__class__]))
                self.assertEqual(vars(one), before)
                # What shows returns is a boolean, and the same one each time.
                self.assertIs(one.shows(PLAN, *arguments[one.__class__]), shown[-2])
        self.assertEqual({True, False}, set(shown))

    def test_no_equality_between_classes(self):
        for one, other in product(objects(), repeat=2):
            if one.__class__ is not other.__class__:
                self.assertIs(one == other, False)
                self.assertIs(one != other, True)
        for (at, one), (where, other) in product(enumerate(objects()), repeat=2):
            if at == where and not isinstance(one, (Table, NoRow)):
                self.assertIs(one == other, True)
                self.assertIs(one != other, False)

    def test_no_class_is_above_another_one(self):
        for one in objects():
            if isinstance(one, MeaningError):
                self.assertEqual(one.__class__.__bases__, (MeaningError,))
            else:
                self.assertEqual(one.__class__.__bases__, (object,))

    def test_nothing_is_iterated_over(self):
        for one in objects():
            with self.assertRaises(TypeError):
                iter(one)
            with self.assertRaises(TypeError):
                list(one)

    def test_plans_and_books_never_change(self):
        text = write_plan(PLAN)
        for name, call in CALLS.items():
            call()
            self.assertEqual(write_plan(PLAN), text, name)
        for one, names in [(PLAN, "book columns things free writers askers"), (PLAN.book, "base settings functions"),
                           (G, "calls columns reads"), (Table(PLAN), "plan wording numbers journal session")]:
            for name in names.split():
                with self.assertRaises(AttributeError):
                    setattr(one, name, None)


if __name__ == "__main__":
    unittest.main()
