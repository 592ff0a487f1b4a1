import unittest
from itertools import combinations, permutations, product

from keptmeanings.books import Book
from keptmeanings.errors import BadPlaces, BadPlan, BadThing, BadWording, TooLarge
from keptmeanings.forms import Form
from keptmeanings.plans import Plan
from keptmeanings.probes import Probes, parted, places, probes, reach
from tests.reading import Reading
from tests.samples import G, K, S, X, Y, example_plan, few_plans, made_plans, mixed_plan, three_plan
from tests.support import (Hostile, assert_equal_by_attributes, assert_errors_in_order, assert_no_other_equal,
                           wrong_values)

NUMBERS = tuple(Form.number(n) for n in range(3))


def telling_plans():
    """Plans with a thing that has some places, of which one, two, three or four are probes."""
    first, second, third = G.same(0), G.same(1), G.same(2)
    three = Book(3, 1, ((G * 0, first, second), (G * 0, third, G), (G * 0, G * G, first + second)))
    two = Book(2, 2, ((G, 1 - G, S), (G, G * 0, S * G), (G, G * G, 1 - G)))
    sums = X.by(0) + X.by(1) + X.by(2)
    return [
        Plan(three, 1, (("kept", sums), ("again", X.by(0) + X.by(1)), ("check", K.same(2)))),
        Plan(three, 1, (("again", sums), ("kept", X.by(0)), ("check", X.by(2).by(1))), free=(1, 2)),
        Plan(three, 2, (("kept", (X - Y).same(1) * X.by(0)), ("kept", X.same(0) * Y.by(1)),
                        ("check", Y.same(2) * X.by(2)))),
        Plan(two, 1, (("kept", sums), ("again", X.by(0)), ("check", X.by(1).by(2)))),
        Plan(two, 2, (("kept", X.by(0) + Y.by(1)), ("kept", K.by(2)), ("check", X.by(1) * Y.by(2)))),
        Plan(two, 2, (("kept", X.by(0) * Y), ("check", Y.by(0).then(1, X.by(1)))), free=(0, 1), askers=(1,)),
        Plan(Book(3, 3, ((G, G + S), (G, S * G, G.by(0)))), 1, (("kept", X.by(1)), ("again", X.by(0)))),
    ]


PLANS = few_plans() + telling_plans() + made_plans(41, 80)


class ProbeReading(Reading):
    """Point [11], read a second time."""

    def reach(self):
        return [one for one in self.wordings() if all(one[k] == 0 for k in range(len(one)) if k not in self.free)]

    def at(self, thing, place, wording):
        return self.plain(thing, wording, place[1], place[0])

    def places(self, thing):
        pairs = product(self.rows, self.askers)
        return [place for place in pairs if len({self.at(thing, place, one) for one in self.reach()}) > 1]

    def parts(self, thing, some, one, other):
        return any(self.at(thing, place, one) != self.at(thing, place, other) for place in some)

    def open_pairs(self, thing, some):
        """All pairs of wordings within reach that all places part, and some do not."""
        known = self.places(thing)
        return [(one, other) for one, other in product(self.reach(), repeat=2)
                if self.parts(thing, known, one, other) and not self.parts(thing, some, one, other)]

    def fewest(self, thing):
        known = self.places(thing)
        return min(many for many in range(len(known) + 1)
                   if any(not self.open_pairs(thing, some) for some in combinations(known, many)))


def probed(least=0, most=40):
    """Quadruples of a plan, its reading, a thing with at least so many probes, and these."""
    found = []
    for plan in PLANS:
        reading = ProbeReading(plan)
        for thing in range(len(plan)):
            if len(places(plan, thing)) <= 8 and len(reading.reach()) <= 9:
                told = probes(plan, thing)
                if len(told.places) >= least:
                    found.append((plan, reading, thing, told))
    return found[:most]


class TestReach(unittest.TestCase):
    def test_all(self):
        for plan in PLANS:
            self.assertEqual(reach(plan), ProbeReading(plan).reach())

    def test_written_out(self):
        book = Book(2, 1, ((G, G), (G, G, G), (G, G)))
        plan = Plan(book, 1, (("kept", X),), free=(0, 2))
        self.assertEqual(reach(plan), [(0, 0, 0), (0, 0, 1), (1, 0, 0), (1, 0, 1)])
        self.assertEqual(reach(plan - [0, 2]), [(0, 0, 0)])
        self.assertEqual(reach(plan | [1]), book.wordings())

    def test_lists_are_new(self):
        plan = example_plan()
        reach(plan).clear()
        self.assertEqual(reach(plan), [(0,), (1,)])


class TestPlaces(unittest.TestCase):
    def test_all(self):
        many = 0
        for plan in PLANS:
            reading = ProbeReading(plan)
            for thing in reading.things:
                self.assertEqual(places(plan, thing), reading.places(thing))
                many += len(reading.places(thing))
        self.assertGreater(many, 150)

    def test_only_within_reach(self):
        plan = example_plan()
        self.assertEqual(places(plan, 0), [((0,), 0), ((1,), 0)])
        self.assertEqual(places(plan - [0], 0), [])

    def test_only_askers(self):
        book = Book(2, 2, ((G, G + S),))
        for askers, expected in [((0,), []), ((1,), [((0,), 1), ((1,), 1)]), ((0, 1), [((0,), 1), ((1,), 1)])]:
            self.assertEqual(places(Plan(book, 1, (("kept", X.by(0)),), askers=askers, writers=(1,)), 0), expected)

    def test_lists_are_new(self):
        plan = example_plan()
        places(plan, 0).clear()
        self.assertEqual(len(places(plan, 0)), 2)

    def test_by_some_wording_alone(self):
        # Both of the first two bodies tell the same; what follows them does not.
        plan = Plan(Book(3, 1, ((G, G, G.then(1, 0)),)), 1, (("kept", X.by(0)),))
        self.assertEqual(places(plan, 0), [((2,), 0)])


class TestParted(unittest.TestCase):
    def test_all(self):
        seen = {True: 0, False: 0}
        for plan in few_plans() + telling_plans():
            reading = ProbeReading(plan)
            for thing in reading.things:
                known = reading.places(thing)
                for some in [[], known, known[:1], known[1:3][::-1], known + known, tuple(known[-1:] * 3)]:
                    for one, other in list(product(reading.wordings(), repeat=2))[::37]:
                        expected = reading.parts(thing, some, one, other)
                        self.assertIs(parted(plan, thing, some, one, other), expected)
                        seen[expected] += 1
        self.assertGreater(min(seen.values()), 200)

    def test_wordings_out_of_reach(self):
        book = Book(2, 1, ((G, 1 - G), (G, G * 0)))
        plan = Plan(book, 1, (("kept", X.by(0) + X.by(1)),), free=(1,))
        self.assertEqual(places(plan, 0), [((1,), 0)])
        self.assertIs(parted(plan, 0, [((1,), 0)], (0, 0), (1, 0)), True)
        self.assertIs(parted(plan, 0, (((1,), 0),), (0, 1), (1, 0)), False)
        self.assertIs(parted(plan, 0, [], (0, 0), (1, 0)), False)

    def test_lists_are_not_modified(self):
        plan = example_plan()
        some = [((1,), 0), ((0,), 0), ((1,), 0)]
        self.assertIs(parted(plan, 0, some, (0,), (1,)), True)
        self.assertEqual(some, [((1,), 0), ((0,), 0), ((1,), 0)])

    def test_more_than_eight_places(self):
        plan = Plan(Book(3, 1, ((G, G + 1),)), 2, (("kept", (X + Y).by(0)),))
        self.assertEqual(len(places(plan, 0)), 9)
        self.assertIs(parted(plan, 0, places(plan, 0), (0,), (1,)), True)


class TestProbes(unittest.TestCase):
    def test_all(self):
        seen = {}
        for plan, reading, thing, told in probed(0, 400):
            known, many = reading.places(thing), reading.fewest(thing)
            self.assertEqual(len(told.places), many)
            self.assertEqual(told.places, sorted(set(told.places)))
            self.assertLessEqual(set(told.places), set(known))
            self.assertEqual(reading.open_pairs(thing, told.places), [])
            self.assertEqual(list(told.against), list(combinations(known, many - 1)) if many else [])
            for some, pair in told.against.items():
                self.assertIn(pair, reading.open_pairs(thing, some))
            self.assertIs(told.shows(plan, thing), True)
            seen[many] = seen.get(many, 0) + 1
        self.assertTrue(all(seen.get(many, 0) > least for many, least in [(0, 50), (1, 9), (2, 3), (3, 0)]), seen)

    def test_no_probes(self):
        plan = example_plan() - [0]
        self.assertEqual(probes(plan, 0), Probes([], {}))
        self.assertIs(Probes([], {(): ((0,), (0,))}).shows(plan, 0), False)
        self.assertIs(Probes([], {}).shows(example_plan(), 0), False)

    def test_one_probe_stands_against_none(self):
        plan = example_plan()
        told = probes(plan, 0)
        self.assertEqual((len(told.places), list(told.against)), (1, [()]))
        for pair in [((0,), (1,)), ((1,), (0,))]:
            for place in places(plan, 0):
                self.assertIs(Probes([place], {(): pair}).shows(plan, 0), True)
        for pair in [((0,), (0,)), ((1,), (1,))]:
            self.assertIs(Probes(told.places, {(): pair}).shows(plan, 0), False)

    def test_eight_places_and_nine(self):
        large = Plan(Book(3, 1, ((G, G + 1),)), 2, (("kept", Form.number(1)), ("again", X.by(0) + Y)))
        eight = Plan(Book(3, 1, ((G, G + G),)), 2, (("kept", X.then(X.by(0), Y.by(0))), ("kept", X)))
        self.assertEqual((len(places(large, 1)), len(places(large, 0))), (9, 0))
        with self.assertRaises(TooLarge):
            probes(large, 1)
        for told in (Probes([], {}), Probes([((0, 0), 0)], {(): ((0,), (1,))})):
            with self.assertRaises(TooLarge):
                told.shows(large, 1)
            self.assertIs(told.shows(large, 0), told == Probes([], {}))
        self.assertEqual(probes(large, 0), Probes([], {}))
        self.assertEqual(len(places(eight, 0)), 8)
        self.assertEqual(len(probes(eight, 0).places), 1)
        self.assertIs(probes(eight, 0).shows(eight, 0), True)

    def test_many_probes_of_eight(self):
        # Each of three functions changes what is told for one number alone, in each of two sessions.
        bodies = [(G * 0, G.same(n) * S) for n in range(3)]
        plan = Plan(Book(3, 3, tuple(bodies)), 1, (("kept", X.by(0) + X.by(1) + X.by(2)),), askers=(1, 2))
        told = probes(plan, 0)
        self.assertEqual((len(places(plan, 0)), len(told.places), len(told.against)), (6, 3, 15))
        self.assertIs(told.shows(plan, 0), True)

    def test_what_is_told_is_new(self):
        plan = telling_plans()[0]
        told, expected = probes(plan, 0), probes(plan, 0)
        self.assertEqual(told, expected)
        told.places.clear()
        told.against.clear()
        self.assertEqual(probes(plan, 0), expected)

    def test_example_of_the_interface(self):
        book = Book(3, 1, ((Form.given(), Form.number(0), Form.given().same(2)),))
        plan = Plan(book, 1, (('again', Form.column(0).by(0)),))
        told = [places(plan, 0), probes(plan, 0).places, parted(plan, 0, [((1,), 0)], (1,), (2,))]
        self.assertEqual(told, [[((1,), 0), ((2,), 0)], [((2,), 0)], False])

    def test_argument_names(self):
        plan = example_plan()
        self.assertEqual((reach(plan=plan), places(plan=plan, thing=0)), (reach(plan), places(plan, 0)))
        self.assertEqual(probes(plan=plan, thing=0), probes(plan, 0))
        self.assertIs(parted(plan=plan, thing=0, some=[], one=(0,), other=(1,)), False)
        self.assertIs(Probes(places=[], against={}).shows(plan=plan, thing=0), False)


class TestShows(unittest.TestCase):
    def test_any_order_of_the_dict(self):
        for plan, _, thing, told in probed():
            turned = dict(reversed(list(told.against.items())))
            self.assertIs(Probes(told.places, turned).shows(plan, thing), True)

    def test_other_probes(self):
        shown = 0
        for plan, reading, thing, told in probed(1):
            for some in combinations(reading.places(thing), len(told.places)):
                expected = reading.open_pairs(thing, some) == []
                self.assertIs(Probes(list(some), told.against).shows(plan, thing), expected)
                shown += expected
                for turned in list(permutations(some))[1:]:
                    self.assertIs(Probes(list(turned), told.against).shows(plan, thing), False)
        self.assertGreater(shown, 20)

    def test_places_changed(self):
        for plan, reading, thing, told in probed(1):
            row, asker = told.places[0]
            for changed in [told.places[1:], told.places * 2, told.places[:1] + told.places,
                            [*told.places, ((9,), 0)],
                            [((), 0)] + told.places[1:], [(row, 7)] + told.places[1:], [(row, -1)] + told.places[1:],
                            [((-1,) * len(row), asker)] + told.places[1:], [(row, asker, 0)] + told.places[1:],
                            [(row,)] + told.places[1:], [(row, bool(asker))] + told.places[1:],
                            [None] + told.places[1:]]:
                self.assertIs(Probes(changed, told.against).shows(plan, thing), False)
            more = [place for place in product(reading.rows, reading.askers) if place not in told.places][:1]
            for changed in [sorted(told.places + more)]:
                if more:
                    self.assertIs(Probes(changed, told.against).shows(plan, thing), False)

    def test_not_fewest(self):
        # With one more place than needed, against has to have tuples that do part all.
        for plan, reading, thing, told in probed(1, 12):
            known = reading.places(thing)
            for some in combinations(known, len(told.places) + 1):
                for pair in list(product(reading.reach(), repeat=2))[:8]:
                    against = {fewer: pair for fewer in combinations(known, len(told.places))}
                    self.assertIs(Probes(list(some), against).shows(plan, thing), False)

    def test_all_pairs_of_wordings(self):
        shown = 0
        for plan, reading, thing, told in probed(1, 30):
            for some in list(told.against)[:3]:
                stands = reading.open_pairs(thing, some)
                for pair in list(product(reading.wordings(), repeat=2))[::3]:
                    expected = pair in stands
                    self.assertIs(Probes(told.places, {**told.against, some: pair}).shows(plan, thing), expected)
                    shown += expected
        self.assertGreater(shown, 50)

    def test_against_changed(self):
        for plan, reading, thing, told in probed(1, 30):
            for some, (one, other) in list(told.against.items())[:4]:
                left_out = {key: told.against[key] for key in told.against if key != some}
                self.assertIs(Probes(told.places, left_out).shows(plan, thing), False)
                for key in [some + some, (*some, ((0,), 0)), (None,), (((0, 0, 0), 0),), None, 0, some + (((), 0),),
                            tuple(told.places), tuple(reversed(reading.places(thing)))[:max(2, len(some))]]:
                    if key in told.against:
                        continue
                    self.assertIs(Probes(told.places, {**told.against, key: (one, other)}).shows(plan, thing), False)
                    self.assertIs(Probes(told.places, {**left_out, key: (one, other)}).shows(plan, thing), False)
                for pair in [(one,), (one, other, one), [one, other], None, (one, one), (one, None), (one, other[1:]),
                             (one, other + (0,)), (one, tuple(bool(n) for n in other)), ((3,) * len(one), other), ()]:
                    self.assertIs(Probes(told.places, {**told.against, some: pair}).shows(plan, thing), False)

    def test_against_out_of_order(self):
        plan = Plan(Book(3, 3, tuple((G * 0, G.same(n) * S) for n in range(3))), 1,
                    (("kept", X.by(0) + X.by(1) + X.by(2)),), askers=(1, 2))
        told = probes(plan, 0)
        for some in told.against:
            changed = {key[::-1] if key == some else key: told.against[key] for key in told.against}
            self.assertIs(Probes(told.places, changed).shows(plan, 0), False)

    def test_keys_with_booleans(self):
        plan = telling_plans()[0]
        told = probes(plan, 0)
        self.assertGreater(len(told.places), 1)
        for some, pair in told.against.items():
            left_out = {key: told.against[key] for key in told.against if key != some}
            (row, asker), rest = some[0], some[1:]
            for place in [(row, False), ((bool(row[0]),), asker)]:
                if row[0] < 2:
                    self.assertIs(Probes(told.places, {**left_out, (place, *rest): pair}).shows(plan, 0), False)

    def test_current_attributes_and_copies(self):
        plan = telling_plans()[0]
        told = probes(plan, 0)
        known, against = list(told.places), dict(told.against)
        copied = Probes(known, against)
        removed = known.pop()
        pair = against.pop(list(against)[0])
        self.assertIs(copied.shows(plan, 0), True)
        self.assertEqual(copied, told)
        self.assertEqual(Probes(tuple(known), {}).places.__class__, list)
        copied.places = known
        self.assertIs(copied.shows(plan, 0), False)
        copied.places.append(removed)
        self.assertIs(copied.shows(plan, 0), True)
        copied.against = against
        self.assertIs(copied.shows(plan, 0), False)
        copied.against[list(told.against)[0]] = pair
        self.assertIs(copied.shows(plan, 0), True)

    def test_of_another_thing(self):
        plan = Plan(Book(3, 1, ((G, G * 0, G.same(2)), (G, G * G))), 1,
                    (("kept", X.by(0)), ("kept", X.by(1)), ("again", X)))
        told = [probes(plan, thing) for thing in range(3)]
        for thing, other in product(range(3), repeat=2):
            self.assertIs(told[thing].shows(plan, other), thing == other)


class TestEqual(unittest.TestCase):
    def test_attributes(self):
        place, pair = ((0,), 0), ((0,), (1,))
        made = [([], {}), ([place], {}), ([place], {(): pair}), ([((1,), 0)], {(): pair}),
                ([place], {(): pair[::-1]})]
        assert_equal_by_attributes(self, [(Probes, parts) for parts in made])

    def test_not_equal_to_other_classes(self):
        plan = example_plan()
        assert_no_other_equal(self, [Probes([], {})], [plan, plan.book, X])


class TestErrors(unittest.TestCase):
    def test_errors_in_order(self):
        plan = three_plan()
        checks = [(0, BadPlan, [None, *wrong_values()[::3], plan.book, X, Plan, (plan,)]),
                  (1, BadThing, [3, *wrong_values()[::3], True, -1, "0", (0,), Hostile()])]
        assert_errors_in_order(self, reach, (plan,), checks[:1])
        for function in (places, probes, Probes([], {}).shows, Probes([None], {None: 0}).shows):
            assert_errors_in_order(self, function, (plan, 1), checks)

    def test_errors_of_parted(self):
        plan = mixed_plan()
        known = places(plan, 0)
        row, asker = known[0]
        no_places = [None, 0, "", {}, {known[0]: 1}, set(), iter(known), known[0], [None], [0], [()], ["", ""],
                     [known[0], row],
                     [row], [list(known[0])], [(list(row), asker)], [(row, asker, asker)], [(row,)],
                     [(row, bool(asker))],
                     [((False, False), asker)], [(row, 2)], [(row, -1)], [((2, 2), 0)], [known], [Hostile()],
                     [(Hostile(), 0)], [(row, Hostile())], (known[0], None), Hostile(), [((0,), 0)]]
        no_wordings = [(9, 9), (0,), (0, 0, 0), (3, 0), (0, 1), (True, 0), [0, 0], None, 0, Hostile(), ((0, 0),)]
        for some in (known, tuple(known), [], ()):
            assert_errors_in_order(self, parted, (plan, 0, some, (2, 0), (1, 0)), [
                (0, BadPlan, [None, plan.book, Hostile()]), (1, BadThing, [3, True, None, Hostile()]),
                (2, BadPlaces, no_places), (3, BadWording, no_wordings), (4, BadWording, no_wordings)])

    def test_places_of_the_thing(self):
        plan = Plan(Book(3, 1, ((G, G * G),)), 1, (("kept", X.by(0)), ("kept", X)))
        self.assertEqual(places(plan, 0), [((2,), 0)])
        self.assertIs(parted(plan, 0, [((2,), 0)], (0,), (1,)), True)
        for thing, place in [(0, ((1,), 0)), (0, ((0,), 0)), (1, ((2,), 0))]:
            with self.assertRaises(BadPlaces):
                parted(plan, thing, [place], (0,), (1,))


if __name__ == "__main__":
    unittest.main()
