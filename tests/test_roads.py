import unittest
from functools import lru_cache
from itertools import product
from random import Random

from keptmeanings.books import Book
from keptmeanings.errors import BadDeed, BadPlan, BadPrices, BadStand, BadWording, TooLarge
from keptmeanings.forms import Form
from keptmeanings.plans import Plan
from keptmeanings.roads import (NoRoad, Road, first_stand, is_good, road, road_price, stand_after, stand_deeds)
from tests.reading import Reading
from tests.samples import G, K, L, S, X, Y, example_plan, few_plans, made_plans, mixed_plan, three_plan
from tests.support import (Hostile, assert_equal_by_attributes, assert_errors_in_order, assert_no_other_equal,
                           wrong_values)

ONE = Form.number(1)


def telling_plans():
    """Plans with few good stands, and with roads of many kinds."""
    two = Book(2, 1, ((G, 1 - G),))
    x = X.by(0)
    plans = [Plan(two, 1, things) for things in [
        (("kept", x),), (("kept", x), ("again", x)), (("kept", x), ("kept", K)), (("again", x), ("again", 1 - x)),
        (("check", x),), (("check", x), ("kept", x)), (("check", x), ("kept", x), ("kept", X)),
        (("kept", x), ("kept", x + X)),
        (("kept", x), ("kept", K), ("check", X)), (("kept", x), ("kept", K), ("again", L)),
        (("again", x), ("check", X))]]
    chain = Book(2, 1, ((G, 1 - G), (G.by(0), G)))
    turning = Book(3, 1, ((G, G + 1, G + 2),))
    sessions = Book(2, 2, ((G, 1 - G, S),))
    return plans + [
        Plan(chain, 1, (("kept", X.by(0)), ("kept", X.by(1)))),
        Plan(chain, 1, (("again", X.by(1)), ("check", X.by(1) + 1))),
        Plan(chain, 1, (("check", X.by(0)), ("check", X.by(1)))),
        Plan(chain, 1, (("kept", X.by(1)),), free=(1,)),
        Plan(turning, 1, (("kept", x),)),
        Plan(turning, 1, (("again", x), ("check", x))),
        Plan(sessions, 1, (("kept", x),), writers=(0,), askers=(0,)),
        Plan(sessions, 1, (("kept", x),), writers=(0,), askers=(0, 1)),
        Plan(sessions, 1, (("kept", x), ("check", x + 1)), writers=(0, 1), askers=(0,)),
        Plan(Book(2, 2, ((G, G + S),)), 1, (("kept", x), ("again", x)), writers=(1,), askers=(0,)),
        Plan(Book(2, 2, ((G + S, G),)), 1, (("kept", x),), writers=(1,), askers=(0,)),
        Plan(two, 2, (("kept", x + Y), ("check", Y)), free=(0,)),
        Plan(two, 1, (("check", Form.number(0)), ("kept", x))),
        Plan(Book(2, 1, ((G, 1 - G, G * 0), (G, 1 - G))), 1, (("kept", X.by(0)), ("again", X.by(1)))),
    ]


def prices_for(plan, random):
    kinds = [lambda: random.randint(0, 9), lambda: random.choice((0, 1)), lambda: 0, lambda: random.choice((0, 9))]
    kind = random.choice(kinds)
    return tuple((kind(), kind()) for _ in range(len(plan)))


class RoadReading(Reading):
    """Point [10], read a second time."""

    def __init__(self, plan):
        super().__init__(plan)
        self.all_things = tuple(self.things)
        self.good = lru_cache(None)(self.good_as_told)
        self.start = (self.first[0], self.all_things, tuple(sorted(self.written(self.first[0]))))

    def written(self, wording):
        there = {self.after((wording, None), ("write", row, writer))[1] for row in self.rows
                 for writer in self.writers}
        return there - {None}

    def stand_deeds(self, stand):
        wording, asked, _ = stand
        found = []
        for k in self.free:
            found += [("put", k, body) for body in range(len(self.functions[k])) if body != wording[k]]
        found += [("build", thing, s) for thing in self.things for s in self.writers]
        for thing in self.things:
            found.append(("shut", thing) if thing in asked else ("open", thing))
        return found

    def stand_after(self, stand, deed):
        wording, asked, there = stand
        there = set(there)
        if deed[0] == "put":
            wording = tuple(deed[2] if k == deed[1] else body for k, body in enumerate(wording))
        if deed[0] == "build":
            there = {self.after((wording, held), deed)[1] for held in there} - {None}
        if deed[0] in ("shut", "open"):
            asked = tuple(sorted(set(asked) ^ {deed[1]}))
        return (wording, asked, tuple(sorted(there | self.written(wording))))

    def good_as_told(self, stand):
        wording, asked, there = stand
        return not any(self.is_wrong((wording, held), thing) for held in there for thing in asked)

    def good_steps(self, stand):
        steps = [(deed, self.stand_after(stand, deed)) for deed in self.stand_deeds(stand)]
        return [(deed, after) for deed, after in steps if self.good(after)]

    @lru_cache(None)
    def good_stands(self, most=130):
        """A dict from the good stands that come about to their steps to good ones; perhaps cut off above most."""
        if not self.good(self.start):
            return {}
        found, todo = {}, [self.start]
        while todo and len(found) <= most:
            stand = todo.pop()
            if stand not in found:
                found[stand] = self.good_steps(stand)
                todo += [after for _, after in found[stand]]
        return found

    def is_end(self, stand, wording):
        return stand[:2] == (wording, self.all_things)

    def price(self, prices, deed):
        return {"shut": lambda: prices[deed[1]][0], "build": lambda: prices[deed[1]][1]}.get(deed[0], lambda: 0)()

    def least_price(self, prices, wording):
        stands = self.good_stands()
        costs = {self.start: 0} if stands else {}
        changed = True
        while changed:
            changed = False
            for stand in list(costs):
                for deed, after in stands[stand]:
                    cost = costs[stand] + self.price(prices, deed)
                    if cost < costs.get(after, 10 ** 6):
                        costs[after], changed = cost, True
        return min([cost for stand, cost in costs.items() if self.is_end(stand, wording)], default=None)

    def price_along(self, deeds, prices, wording):
        """The price of a road step by step, None if it is none."""
        stand, price = self.start, 0
        if not self.good(stand):
            return None
        for deed in deeds:
            if deed not in self.stand_deeds(stand):
                return None
            stand, price = self.stand_after(stand, deed), price + self.price(prices, deed)
            if not self.good(stand):
                return None
        return price if self.is_end(stand, wording) else None

    def shown(self, deeds, heights, prices, wording):
        """Whether a Road with these shows that it is one."""
        least = self.price_along(deeds, prices, wording)
        if least is None or (least != 0 and (self.start, 0) not in heights):
            return False
        if any(self.is_end(stand, wording) for stand, _ in heights):
            return False
        for stand, height in heights:
            for deed, after in self.good_steps(stand):
                most = height + self.price(prices, deed)
                if most < least and not any(other == after and low <= most for other, low in heights):
                    return False
        return True

    def none_shown(self, stands, wording):
        """Whether a NoRoad with these stands shows that it is one."""
        if self.good(self.start) and self.start not in stands:
            return False
        return not any(self.is_end(stand, wording) or any(after not in stands for _, after in self.good_steps(stand))
                       for stand in stands)


def some_stands(reading, many=40):
    """Good stands that come about, and others of all kinds, many of which cannot come about."""
    random = Random(len(reading.trees))
    wordings, held = reading.wordings(), sorted(reading.held())
    found = list(reading.good_stands(many))[:many]
    for _ in range(many):
        asked = tuple(thing for thing in reading.things if random.random() < 0.5)
        there = tuple(sorted(random.sample(held, random.randint(0, min(4, len(held))))))
        found.append((random.choice(wordings), asked, there))
    return found


@lru_cache(None)
def travelled():
    """Quintuples of a plan, its reading, prices, a wording and the road that is told."""
    random, found = Random(62), []
    for plan in telling_plans() + few_plans() + made_plans(61, 120):
        reading = RoadReading(plan)
        if len(reading.good_stands()) <= 120:
            for wording in reading.wordings() * (4 if plan in telling_plans() else 1):
                prices = prices_for(plan, random)
                found.append((plan, reading, prices, wording, road(plan, prices, wording)))
    return found


def some_travelled(kind, most):
    """Some of what is travelled, with few stands, where a road of this kind is told; those with long roads first."""
    found = [one for one in travelled() if isinstance(one[4], kind) and len(one[1].good_stands()) <= 60]
    return sorted(found, key=lambda one: -len(getattr(one[4], "deeds", [])))[:most]


class TestStands(unittest.TestCase):
    def test_first_stand(self):
        for plan in telling_plans() + few_plans() + made_plans(63, 30):
            self.assertEqual(first_stand(plan), RoadReading(plan).start)

    def test_first_stand_written_out(self):
        plan = Plan(Book(2, 2, ((G, G + S),)), 1, (("kept", X.by(0) + S), ("check", X)), writers=(0, 1))
        self.assertEqual(first_stand(plan), ((0,), (0, 1), (((1,), (0, 1)), ((1,), (1, 1)))))
        nothing = Plan(Book(2, 1, ((G,),)), 1, (("check", Form.number(0)),))
        self.assertEqual(first_stand(nothing), ((0,), (0,), ()))

    def test_deeds_in_order(self):
        for plan in telling_plans() + few_plans() + made_plans(63, 30):
            reading = RoadReading(plan)
            for stand in some_stands(reading, 12):
                self.assertEqual(stand_deeds(plan, stand), reading.stand_deeds(stand))

    def test_deeds_written_out(self):
        plan = Plan(Book(2, 2, ((G, S, G), (G, S), (G, S))), 1, (("kept", X), ("check", X), ("again", X)),
                    free=(0, 2))
        builds = [("build", thing, s) for thing in range(3) for s in range(2)]
        self.assertEqual(stand_deeds(plan, ((1, 1, 0), (1,), ())),
                         [("put", 0, 0), ("put", 0, 2), ("put", 2, 1), *builds, ("open", 0), ("shut", 1),
                          ("open", 2)])
        self.assertEqual(stand_deeds(plan, ((0, 0, 1), (0, 1, 2), (((0,), (0, 1, 0)),))),
                         [("put", 0, 1), ("put", 0, 2), ("put", 2, 0), *builds, ("shut", 0), ("shut", 1),
                          ("shut", 2)])

    def test_all_deeds(self):
        for plan in telling_plans() + few_plans() + made_plans(64, 40):
            reading = RoadReading(plan)
            for stand in some_stands(reading, 8):
                for deed in reading.stand_deeds(stand):
                    self.assertEqual(stand_after(plan, stand, deed), reading.stand_after(stand, deed))

    def test_after_written_out(self):
        plan = Plan(Book(2, 1, ((G, 1 - G),)), 1, (("kept", X.by(0)), ("check", X)))
        # What is written by the wording then may be there, too, after any deed.
        self.assertEqual(stand_after(plan, ((0,), (0, 1), ()), ("shut", 0)), ((0,), (1,), (((1,), (1, 1)),)))
        self.assertEqual(stand_after(plan, ((1,), (), ()), ("open", 1)), ((1,), (1,), (((1,), (0, 1)),)))
        self.assertEqual(stand_after(plan, ((1,), (1,), ()), ("open", 0)), ((1,), (0, 1), (((1,), (0, 1)),)))
        self.assertEqual(stand_after(plan, ((0,), (), ()), ("put", 0, 1)), ((1,), (), (((1,), (0, 1)),)))
        both = (((0,), (1, 1)), ((1,), (0, 1)))
        self.assertEqual(stand_after(plan, ((0,), (), both), ("build", 1, 0)),
                         ((0,), (), (((1,), (0, 1)), ((1,), (1, 1)))))
        self.assertEqual(stand_after(plan, ((0,), (), both), ("build", 0, 0)),
                         ((0,), (), (((0,), (0, 1)), ((1,), (1, 1)))))
        # By another writer, a row is built in another way, but what is written by all of them is there again.
        other = Plan(Book(2, 2, ((G,),)), 1, (("kept", X + S),))
        self.assertEqual(stand_after(other, ((0,), (0,), (((0,), (0,)),)), ("build", 0, 1))[2],
                         (((0,), (0,)), ((0,), (1,)), ((1,), (0,)), ((1,), (1,))))

    def test_is_good(self):
        seen = {True: 0, False: 0}
        for plan in telling_plans() + few_plans() + made_plans(65, 60):
            reading = RoadReading(plan)
            for stand in some_stands(reading):
                good = reading.good(stand)
                self.assertIs(is_good(plan, stand), good)
                seen[good] += 1
        self.assertGreater(min(seen.values()), 300)

    def test_good_for_what_is_open_alone(self):
        plan = Plan(Book(2, 1, ((G,),)), 1, (("kept", X), ("again", X), ("check", X)))
        fine, wrong, barred = ((1,), (1, 1, 1)), ((1,), (1, 0, 1)), ((0,), (0, 0, 1))
        for asked in [(), (0,), (1,), (0, 2), (1, 2), (2,), (0, 1, 2)]:
            self.assertIs(is_good(plan, ((0,), asked, ())), True)
            self.assertIs(is_good(plan, ((0,), asked, (fine,))), True)
            self.assertIs(is_good(plan, ((0,), asked, (wrong, fine))), 1 not in asked)
            self.assertIs(is_good(plan, ((0,), asked, (barred, fine))), 2 not in asked)
            self.assertIs(is_good(plan, ((0,), asked, (barred, wrong))), 1 not in asked and 2 not in asked)

    def test_lists_are_new(self):
        plan = example_plan()
        stand = first_stand(plan)
        expected = list(stand_deeds(plan, stand))
        stand_deeds(plan, stand).clear()
        self.assertEqual(stand_deeds(plan, stand), expected)


class TestRoad(unittest.TestCase):
    def test_all_prices(self):
        seen = {}
        for plan, reading, prices, wording, told in travelled():
            least = reading.least_price(prices, wording)
            self.assertEqual(road_price(plan, prices, wording), least)
            self.assertIs(told.__class__, NoRoad if least is None else Road)
            if least is None:
                self.assertTrue(reading.none_shown(told.stands, wording))
            else:
                self.assertEqual(reading.price_along(told.deeds, prices, wording), least)
                self.assertTrue(reading.shown(told.deeds, told.heights, prices, wording))
            self.assertIs(told.shows(plan, prices, wording), True)
            key = least if least in (None, 0) else "some"
            seen[key] = seen.get(key, 0) + 1
        self.assertTrue(all(seen.get(key, 0) > 40 for key in (None, 0, "some")), seen)

    def test_every_pair_of_prices(self):
        plan = telling_plans()[0]
        for shut, build in product(range(10), repeat=2):
            # The thing is shut, the function redefined, the thing built and open again.
            self.assertEqual(road_price(plan, ((shut, build),), (1,)), shut + build)
            self.assertEqual(road_price(plan, ((shut, build),), (0,)), 0)
        two = Plan(plan.book, 1, (("again", X.by(0)), ("check", X.by(0) * 0 + 1)))
        self.assertEqual([road_price(two, prices, (1,))
                          for prices in [((2, 3), (9, 9)), ((0, 0), (0, 0)), ((9, 9), (0, 0))]],
                         [5, 0, 18])

    def test_roads_that_pay_for_another_way(self):
        # The last thing reads the first one: it is built anew for nothing unless the first one is asked meanwhile.
        plan = telling_plans()[2]
        reading = RoadReading(plan)
        for prices in product(((0, 9), (9, 0), (1, 5), (4, 4)), repeat=2):
            for wording in reading.wordings():
                self.assertEqual(road_price(plan, prices, wording), reading.least_price(prices, wording))

    def test_written_out(self):
        plan = telling_plans()[0]
        told = road(plan, ((3, 5),), (1,))
        self.assertEqual(told.deeds, [("shut", 0), ("put", 0, 1), ("build", 0, 0), ("open", 0)])
        self.assertEqual(road(plan, ((3, 5),), (0,)), Road([], []))
        # Nothing that is asked changes by this, so nothing has to be shut.
        same = Plan(Book(2, 1, ((G, G * G),)), 1, (("kept", X.by(0)),))
        self.assertEqual(road(same, ((3, 5),), (1,)).deeds, [("put", 0, 1)])
        self.assertEqual(road_price(same, ((3, 5),), (1,)), 0)

    def test_no_road(self):
        plan = telling_plans()[0]
        fixed = road(plan - [0], ((3, 5),), (1,))
        self.assertIsInstance(fixed, NoRoad)
        self.assertIsNone(road_price(plan - [0], ((3, 5),), (1,)))
        self.assertEqual(road_price(plan - [0], ((3, 5),), (0,)), 0)
        # Writers and askers mean other things, so even the first stand is wrong, and nothing is closed but nothing.
        wrong = Plan(Book(2, 2, ((G + S, G),)), 1, (("kept", X.by(0)),), writers=(1,), askers=(0,))
        for wording in ((0,), (1,)):
            self.assertEqual(road(wrong, ((3, 5),), wording), NoRoad([]))
            self.assertIsNone(road_price(wrong, ((3, 5),), wording))
            self.assertIs(NoRoad([]).shows(wrong, ((3, 5),), wording), True)
            self.assertIs(Road([], []).shows(wrong, ((3, 5),), wording), False)
            self.assertIs(Road([("put", 0, 1)], []).shows(wrong, ((0, 0),), wording), False)

    def test_what_is_told_is_new(self):
        plan, prices = telling_plans()[0], ((3, 5),)
        for given, wording in [(plan, (1,)), (plan - [0], (1,))]:
            one, other = road(given, prices, wording), road(given, prices, wording)
            self.assertEqual(one, other)
            self.assertIsNot(one, other)
            for told in [one.stands] if isinstance(one, NoRoad) else [one.deeds, one.heights]:
                told.clear()
            self.assertEqual(road(given, prices, wording), other)
            self.assertNotEqual(one, other)

    def test_example_of_the_interface(self):
        plan = Plan(Book(2, 1, ((Form.given(), 1 - Form.given()),)), 1, (('kept', Form.column(0).by(0)),))
        told = [first_stand(plan), road_price(plan, ((3, 5),), (1,)), road_price(plan, ((3, 5),), (0,)),
                stand_after(plan, first_stand(plan), ('put', 0, 1))[2]]
        self.assertEqual(told, [((0,), (0,), (((0,), (0,)), ((1,), (1,)))), 8, 0,
                                (((0,), (0,)), ((0,), (1,)), ((1,), (0,)), ((1,), (1,)))])

    def test_argument_names(self):
        plan, prices = telling_plans()[0], ((3, 5),)
        stand = first_stand(plan=plan)
        self.assertEqual(stand_deeds(plan=plan, stand=stand), stand_deeds(plan, stand))
        self.assertIs(is_good(plan=plan, stand=stand), True)
        self.assertEqual(stand_after(plan=plan, stand=stand, deed=("shut", 0)), stand_after(plan, stand, ("shut", 0)))
        self.assertEqual(road(plan=plan, prices=prices, wording=(1,)), road(plan, prices, (1,)))
        self.assertEqual(road_price(plan=plan, prices=prices, wording=(1,)), 8)
        self.assertIs(Road(deeds=[], heights=[]).shows(plan=plan, prices=prices, wording=(0,)), True)
        self.assertIs(NoRoad(stands=[]).shows(plan=plan, prices=prices, wording=(0,)), False)


class TestTooLarge(unittest.TestCase):
    def assert_large(self, plan):
        prices = ((1, 1),) * len(plan)
        for wording in plan.book.wordings():
            for function in (road, road_price):
                with self.assertRaises(TooLarge):
                    function(plan, prices, wording)

    def test_exactly_120(self):
        book = Book(3, 1, ((G, G * 0), (ONE, G * 0, Form.number(2))))
        plan = Plan(book, 1, (("again", Form.number(2)), ("kept", X.by(1).by(0).by(1)), ("kept", X * 0)))
        reading = RoadReading(plan)
        self.assertEqual(len(reading.good_stands(400)), 120)
        for wording in reading.wordings():
            told = road(plan, ((1, 2), (3, 4), (5, 6)), wording)
            self.assertIs(told.shows(plan, ((1, 2), (3, 4), (5, 6)), wording), True)
            self.assertEqual(road_price(plan, ((1, 2), (3, 4), (5, 6)), wording),
                             reading.least_price(((1, 2), (3, 4), (5, 6)), wording))

    def test_more_than_120(self):
        plan = Plan(Book(2, 1, ((G * 0, G * 0, ONE),)), 1, (("kept", X.by(0)), ("kept", X.by(0) - X), ("kept", L)))
        self.assertEqual(len(RoadReading(plan).good_stands(400)), 123)
        one_more = Plan(Book(2, 1, ((G * 0, G), (G.by(0), ONE, G))), 1,
                        (("kept", ONE.by(1)), ("again", K), ("check", K)))
        self.assertEqual(len(RoadReading(one_more).good_stands(400)), 121)
        self.assert_large(one_more)
        # Also where a road has no deeds at all, or where there is none.
        self.assert_large(plan)
        large = [plan for plan in few_plans() + made_plans(66, 500) if len(RoadReading(plan).good_stands()) > 120]
        self.assertGreater(len(large), 6)
        for plan in large:
            self.assert_large(plan)

    def test_no_good_stand_is_not_too_large(self):
        plan = Plan(Book(2, 2, ((G + S, G), (G, G, G), (G, G, G))), 1, (("kept", X.by(0)), ("kept", X), ("kept", X)),
                    writers=(1,), askers=(0,))
        self.assertEqual(road(plan, ((0, 0),) * 3, (0, 0, 0)), NoRoad([]))

    def test_evidence_may_be_larger(self):
        # With all that is asked shut, and open again by whoever asks, nothing is ever wrong, whatever is put.
        book = Book(2, 1, ((G, G, G), (G, G, G), (G, G)))
        plan = Plan(book, 1, (("kept", X), ("kept", X), ("kept", X)))
        reading = RoadReading(plan)
        self.assertEqual(len(reading.good_stands(400)), 18 * 8)
        self.assert_large(plan)
        stands = list(reading.good_stands(400))
        fixed = plan - [0, 1, 2]
        self.assertIs(NoRoad([stand for stand in stands if stand[0] == (0, 0, 0)]).shows(fixed, ((0, 0),) * 3,
                                                                                         (1, 0, 0)), True)
        self.assertIs(NoRoad(stands).shows(plan, ((0, 0),) * 3, (2, 2, 1)), False)
        self.assertIs(Road([("put", 0, 1)], []).shows(plan, ((1, 1),) * 3, (1, 0, 0)), True)
        shut = [(stand, 5) for stand in stands if stand[1] == ()]
        self.assertIs(Road([("put", 0, 1)], shut).shows(plan, ((1, 1),) * 3, (1, 0, 0)), True)


class TestShowsRoad(unittest.TestCase):
    def assert_shown(self, case, deeds, heights):
        plan, reading, prices, wording, _ = case
        expected = reading.shown(deeds, heights, prices, wording)
        self.assertIs(Road(deeds, heights).shows(plan, prices, wording), expected)
        return expected

    def test_deeds_changed(self):
        seen = {True: 0, False: 0}
        for case in some_travelled(Road, 40):
            told = case[4]
            deeds = told.deeds
            changed = [deeds[::-1], deeds + deeds, [], deeds[1:]]
            for at in range(len(deeds)):
                changed += [deeds[:at] + deeds[at + 1:], deeds[:at + 1] + deeds[at:], deeds[:at],
                            deeds[:at] + deeds[at:at + 2][::-1] + deeds[at + 2:]]
                changed += [deeds[:at] + [deed] + deeds[at + 1:] for deed in case[1].stand_deeds(case[1].start)]
                changed += [deeds[:at] + [deed] + deeds[at:] for deed in case[1].stand_deeds(case[1].start)]
            for one in changed:
                seen[self.assert_shown(case, one, told.heights)] += 1
        self.assertTrue(seen[True] > 20 and seen[False] > 500, seen)

    def test_detours(self):
        # A road may be longer than it has to be, but not dearer.
        plan, prices = telling_plans()[0], ((3, 5),)
        told = road(plan, prices, (1,))
        shut, put, build, again = told.deeds
        self.assertIs(Road([shut, put, ("put", 0, 0), put, build, again], told.heights).shows(plan, prices, (1,)),
                      True)
        self.assertIs(Road([shut, put, build, build, again], told.heights).shows(plan, prices, (1,)), False)
        self.assertIs(Road([shut, put, build, build, again], told.heights).shows(plan, ((3, 0),), (1,)), True)
        self.assertIs(Road([shut, build, put, build, again], told.heights).shows(plan, prices, (1,)), False)
        free = Road(told.deeds + [shut, again] * 3, [])
        self.assertEqual([free.shows(plan, ((0, 0),), (1,)), free.shows(plan, ((0, 1),), (1,))], [True, False])

    def test_dearer_roads_have_no_heights(self):
        for case in some_travelled(Road, 30):
            plan, reading, prices, wording, told = case
            if told.heights:
                dear = [("shut", 0), ("open", 0)] * 2 + told.deeds
                price = reading.price_along(dear, prices, wording)
                more = sorted({*told.heights, *[(stand, 0) for stand in reading.good_stands()
                                                if not reading.is_end(stand, wording)]})
                self.assert_shown(case, dear, more)
                if price != reading.least_price(prices, wording):
                    self.assertIs(Road(dear, more).shows(plan, prices, wording), False)

    def test_heights_changed(self):
        seen = {True: 0, False: 0}
        for case in some_travelled(Road, 60)[::2]:
            _, reading, prices, wording, told = case
            heights = told.heights
            changed = [heights[::-1], heights + heights, [], heights + heights[:1]]
            for at, (stand, height) in list(enumerate(heights))[:8]:
                changed.append(heights[:at] + heights[at + 1:])
                for other in (height - 1, height + 1, -1, -7, 0, 30):
                    changed += [heights[:at] + [(stand, other)] + heights[at + 1:], [(stand, other)] + heights,
                                heights + [(stand, other)]]
            for stand in some_stands(reading, 5):
                changed += [heights + [(stand, height)] for height in (-3, 0, 2, 40)]
            for one in changed:
                seen[self.assert_shown(case, told.deeds, one)] += 1
        self.assertTrue(seen[True] > 200 and seen[False] > 200, seen)

    def test_the_first_stand(self):
        plan, prices = telling_plans()[0], ((3, 5),)
        told = road(plan, prices, (1,))
        first = first_stand(plan)
        rest = [pair for pair in told.heights if pair[0] != first]
        for heights, expected in [([(first, 0)] + rest, True), (rest, False), ([(first, 1)] + rest, False),
                                  (rest + [(first, 0)], True),
                                  ([(first, -1)] + rest, False), ([(first, 1), (first, 0)] + rest, True),
                                  ([(first, 8)] + rest, False)]:
            self.assertIs(Road(told.deeds, heights).shows(plan, prices, (1,)), expected)
        # With a price of 0 for the road, the first stand need not be there.
        self.assertIs(Road(told.deeds, []).shows(plan, ((0, 0),), (1,)), True)
        self.assertIs(Road(told.deeds, rest).shows(plan, ((0, 0),), (1,)), True)
        self.assertIs(Road(told.deeds, []).shows(plan, prices, (1,)), False)

    def test_numbers_below_0_and_above_the_price(self):
        plan, prices = telling_plans()[0], ((3, 5),)
        told = road(plan, prices, (1,))
        reading = RoadReading(plan)
        case = (plan, reading, prices, (1,), told)
        end = next(stand for stand in reading.good_stands() if reading.is_end(stand, (1,)))
        for height in (-100, -9, -1, 8, 9, 1000, 10 ** 30):
            for stand in reading.good_stands():
                expected = self.assert_shown(case, told.deeds, told.heights + [(stand, height)])
                self.assertTrue(not expected or stand != end)
        lower = [(stand, height) for stand, height in told.heights] + [(stand, -50) for stand in reading.good_stands()
                                                                       if not reading.is_end(stand, (1,))]
        self.assertIs(self.assert_shown(case, told.deeds, lower), False)

    def test_stands_of_the_end(self):
        for case in some_travelled(Road, 40):
            _, reading, _, wording, told = case
            for stand in [stand for stand in reading.good_stands() if reading.is_end(stand, wording)][:3]:
                for height in (0, 100):
                    self.assertIs(self.assert_shown(case, told.deeds, told.heights + [(stand, height)]), False)
            end = (wording, reading.all_things, ())
            self.assertIs(self.assert_shown(case, told.deeds, told.heights + [(end, 1000)]), False)

    def test_stands_that_are_not_good(self):
        # Such a stand may be there, if nothing good is missed behind it.
        plan, prices = telling_plans()[0], ((3, 5),)
        told = road(plan, prices, (1,))
        case = (plan, RoadReading(plan), prices, (1,), told)
        bad = ((0,), (0,), (((0,), (0,)), ((0,), (1,))))
        self.assertIs(is_good(plan, bad), False)
        # To build it anew leads to the first stand, for 5 more; to shut it, for 3 more, to a stand that is not listed.
        shut = ((0,), (), (((0,), (0,)), ((0,), (1,)), ((1,), (1,))))
        for heights, expected in [([(bad, 5)], True), ([(bad, 4)], False), ([(bad, 4), (shut, 7)], True),
                                  ([(bad, -5)], False),
                                  ([(bad, 0), (shut, 3)], True), ([(bad, -1), (shut, 3)], False)]:
            self.assertIs(self.assert_shown(case, told.deeds, told.heights + heights), expected)

    def test_no_deeds_and_no_heights(self):
        plan, prices = telling_plans()[0], ((3, 5),)
        told = road(plan, prices, (1,))
        for wrong in [("put", 0, 2), ("put", 0, 0), ("put", 0, True), ("put", 0), (), ("build", 1, 0),
                      ("build", 0, 1), ("open", 0),
                      ("shut", 1), ("shut", False), ("shut",), ("shut", 0, 0), ("write", (0,), 0), ("take", 0),
                      (0, 0), None, Hostile()]:
            for deeds in ([wrong] + told.deeds, told.deeds + [wrong], told.deeds[:1] + [wrong] + told.deeds[1:]):
                self.assertIs(Road(deeds, told.heights).shows(plan, prices, (1,)), False)
        first = first_stand(plan)
        for wrong in [first, (first,), (first, 0, 0), (first, True), (first, None), (None, 9), [first, 9],
                      ((first[0], first[1]), 9),
                      (((2,), (), ()), 9), (((0,), (1,), ()), 9), (((False,), (), ()), 9), (((0,), (0, 0), ()), 9),
                      None,
                      (((0,), (0,), first[2][::-1]), 9), (((0,), (0,), first[2][:1] * 2), 9),
                      (((0,), (0,), (((0,), (2,)),)), 9)]:
            self.assertIs(Road(told.deeds, told.heights + [wrong]).shows(plan, prices, (1,)), False)

    def test_of_other_prices_and_wordings(self):
        for case in some_travelled(Road, 30):
            plan, reading, prices, wording, told = case
            for other in reading.wordings():
                self.assertIs(told.shows(plan, prices, other), reading.shown(told.deeds, told.heights, prices, other))
            random = Random(len(told.deeds))
            for _ in range(5):
                other = prices_for(plan, random)
                self.assertIs(told.shows(plan, other, wording),
                              reading.shown(told.deeds, told.heights, other, wording))

    def test_current_attributes_and_copies(self):
        plan, prices = telling_plans()[0], ((3, 5),)
        first = road(plan, prices, (1,))
        deeds, heights = list(first.deeds), list(first.heights)
        told = Road(deeds, heights)
        deeds.clear()
        heights.clear()
        self.assertEqual(told, first)
        self.assertIs(told.shows(plan, prices, (1,)), True)
        last = told.deeds.pop()
        self.assertIs(told.shows(plan, prices, (1,)), False)
        told.deeds.append(last)
        told.heights = []
        self.assertIs(told.shows(plan, prices, (1,)), False)
        told.heights = first.heights
        self.assertIs(told.shows(plan, prices, (1,)), True)
        self.assertEqual([Road((), ()).deeds, Road((), ()).heights, NoRoad(()).stands], [[], [], []])


class TestShowsNoRoad(unittest.TestCase):
    def assert_shown(self, case, stands):
        plan, reading, prices, wording, _ = case
        expected = reading.none_shown(stands, wording)
        self.assertIs(NoRoad(stands).shows(plan, prices, wording), expected)
        return expected

    def test_changed(self):
        seen = {True: 0, False: 0}
        for case in some_travelled(NoRoad, 400)[::4]:
            _, reading, _, wording, told = case
            stands = told.stands
            for one in [stands[::-1], stands + stands, stands[1:] + stands[:1]]:
                self.assertIs(self.assert_shown(case, one), True)
            for at in range(0, len(stands), 1 + len(stands) // 6):
                self.assertIs(self.assert_shown(case, stands[:at] + stands[at + 1:]), False)
            for stand in some_stands(reading, 6) + [(wording, reading.all_things, ())]:
                seen[self.assert_shown(case, stands + [stand])] += 1
        self.assertTrue(seen[True] > 20 and seen[False] > 100, seen)

    def test_where_there_is_a_road(self):
        for case in some_travelled(Road, 25):
            _, reading, _, wording, _ = case
            stands = list(reading.good_stands())
            for one in [[], stands, [stand for stand in stands if not reading.is_end(stand, wording)]]:
                self.assertIs(self.assert_shown(case, one), False)

    def test_stands_that_cannot_come_about(self):
        wrong = Plan(Book(2, 2, ((G + S, G),)), 1, (("kept", X.by(0)),), writers=(1,), askers=(0,))
        case = (wrong, RoadReading(wrong), ((3, 5),), (1,), NoRoad([]))
        # The first stand is not good here, so any stands may be there from which no end comes about.
        reading, seen = case[1], []
        for wording in ((0,), (1,)):
            for stand in some_stands(reading, 10):
                closed = [stand]
                for one in closed:
                    closed += [after for _, after in reading.good_steps(one) if after not in closed]
                for stands in (closed, closed[1:], closed[:-1], [reading.start, *closed]):
                    seen.append(self.assert_shown((*case[:3], wording, None), stands))
        self.assertGreater(min(seen.count(True), seen.count(False)), 10)

    def test_no_stands(self):
        plan = telling_plans()[0] - [0]
        told = road(plan, ((3, 5),), (1,))
        first = first_stand(plan)
        self.assertIs(told.shows(plan, ((3, 5),), (1,)), True)
        for wrong in [None, (), first[:2], (*first, 0), ((2,), (), ()), ((False,), (), ()), ((0,), [0], ()),
                      ((0,), (1,), ()),
                      ((0,), (0,), list(first[2])), ((0,), (0,), first[2][::-1]), ((0,), (), (((0,), (True,)),)),
                      Hostile()]:
            self.assertIs(NoRoad(told.stands + [wrong]).shows(plan, ((3, 5),), (1,)), False)

    def test_current_attributes_and_copies(self):
        plan, prices = telling_plans()[0] - [0], ((3, 5),)
        stands = road(plan, prices, (1,)).stands
        told = NoRoad(stands)
        kept = stands.pop()
        self.assertIs(told.shows(plan, prices, (1,)), True)
        told.stands = stands
        self.assertIs(told.shows(plan, prices, (1,)), False)
        told.stands.append(kept)
        self.assertIs(told.shows(plan, prices, (1,)), True)
        self.assertIs(told.shows(plan | [0], prices, (1,)), False)


class TestEqual(unittest.TestCase):
    def test_attributes(self):
        stand = ((0,), (), ())
        made = [(Road, ([], [])), (Road, ([("shut", 0)], [])), (Road, ([("open", 0)], [])),
                (Road, ([], [(stand, 0)])),
                (Road, ([], [(stand, 1)])), (NoRoad, ([],)), (NoRoad, ([stand],)), (NoRoad, ([stand, stand],))]
        assert_equal_by_attributes(self, made)

    def test_not_equal_to_other_classes(self):
        plan = example_plan()
        assert_no_other_equal(self, [Road([], []), NoRoad([])], [plan, plan.book, X])


class TestErrors(unittest.TestCase):
    def setUp(self):
        self.plan = mixed_plan()
        self.no_plans = [None, *wrong_values()[::3], self.plan.book, X, Plan, (self.plan,)]

    def no_stands(self):
        wording, held, other = (0, 0), ((0, 1), (1, 0, 1)), ((1, 1), (1, 0, 1))
        return [None, *wrong_values()[::3], wording, (wording,), (wording, ()), (wording, (), (), ()),
                [wording, (), ()],
                ((0,), (), ()), ((3, 0), (), ()), ((0, False), (), ()), (None, (), ()), (wording, None, ()),
                (wording, 0, ()),
                (wording, [0], ()), (wording, (0, 0), ()), (wording, (1, 0), ()), (wording, (3,), ()),
                (wording, (-1,), ()),
                (wording, (True,), ()), (wording, (0, 1, 2, 3), ()), (wording, (), None), (wording, (), []),
                (wording, (), held),
                (wording, (), (None,)), (wording, (), (held, held)), (wording, (), (other, held)),
                (wording, (), [held]),
                (wording, (), ((held[0], (1, 0, 0)),)), (wording, (), ((held[0], (1, 2, 1)),)),
                (wording, (), (((0,), held[1]),)),
                (wording, (), (held, (held[0], (True, 0, 1)))), (wording, (), ((list(held[0]), held[1]),)),
                (wording, (), (Hostile(),)),
                (wording, Hostile(), ()), (Hostile(), (), ()), (wording, (Hostile(),), ()), (wording, (), Hostile())]

    def test_stands(self):
        plan = self.plan
        held = (((0, 1), (0, 1, 1)), ((0, 1), (1, 0, 1)), ((1, 1), (0, 0, 1)))
        no_deeds = [None, *wrong_values()[::3], ("put", 1, 0), ("put", 0, 3), ("put", 0, 1), ("put", 0),
                    ("put", 0, 0, 0), ["put", 0, 2],
                    ("put", 0, True), ("build", 0, 0), ("build", 3, 1), ("build", 0, True), ("build", 0),
                    ("build", True, 1),
                    ("shut", 1), ("open", 0), ("open", 2), ("shut", 3), ("open", 3), ("open", True), ("shut", False),
                    ("shut",),
                    ("open", 1, 0), ("shut", -1), ("write", (0, 1), 1), ("take", 0), (0, 0), (Hostile(), 0),
                    ("shut", Hostile()), Hostile()]
        good = ((1, 0), (0, 2), held)
        stands = [(0, BadPlan, self.no_plans), (1, BadStand, self.no_stands())]
        assert_errors_in_order(self, first_stand, (plan,), stands[:1])
        for function in (stand_deeds, is_good):
            assert_errors_in_order(self, function, (plan, good), stands)
        for deed in [("put", 0, 2), ("build", 2, 1), ("shut", 0), ("open", 1)]:
            assert_errors_in_order(self, stand_after, (plan, good, deed), [*stands, (2, BadDeed, no_deeds)])

    def test_roads(self):
        plan = three_plan()
        plan = Plan(plan.book, 1, plan.things[:2], free=(0,))
        pair = (0, 9)
        no_prices = [None, *wrong_values()[::3], (pair,), (pair, pair, pair), [pair, pair], (pair, list(pair)),
                     (pair, (0, 10)), (pair, (-1, 0)),
                     (pair, (0, 0, 0)), (pair, (0,)), (pair, (True, 0)), (pair, (0, False)), (pair, None), (pair, 0),
                     ((None, 0), pair),
                     (pair, (0, Hostile())), (pair, Hostile()), {0: pair, 1: pair}, ((0, 10 ** 40), pair),
                     ((0, 0), ("1", 0))]
        no_wordings = [None, *wrong_values()[::3], (0,), (0, 0, 0), (2, 0), (0, 2), (True, 0), [0, 0], (-1, 0),
                       Hostile()]
        checks = [(0, BadPlan, self.no_plans), (1, BadPrices, no_prices), (2, BadWording, no_wordings)]
        good = (plan, (pair, (3, 3)), (1, 0))
        for function in (road, road_price, Road([], []).shows, NoRoad([]).shows, Road([None], [None]).shows,
                         NoRoad([None]).shows):
            assert_errors_in_order(self, function, good, checks)

    def test_wrong_arguments_ahead_of_too_large(self):
        plan = Plan(Book(2, 1, ((G, G, G), (G, G, G), (G, G))), 1, (("kept", X), ("kept", X), ("kept", X)))
        prices = ((1, 1),) * 3
        for function in (road, road_price):
            with self.assertRaises(TooLarge):
                function(plan, prices, (0, 0, 0))
            with self.assertRaises(BadPrices):
                function(plan, prices[1:], (0, 0))
            with self.assertRaises(BadWording):
                function(plan, prices, (0, 0, 2))


if __name__ == "__main__":
    unittest.main()
