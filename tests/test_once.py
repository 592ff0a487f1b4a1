import unittest
from functools import lru_cache
from itertools import product

from keptmeanings.books import Book
from keptmeanings.errors import BadCouple, BadDeed, BadPlan, BadThing, TooLarge
from keptmeanings.forms import Form
from keptmeanings.once import Once, Twice, couple_after, couple_deeds, first_couple, first_twice, once
from keptmeanings.plans import Plan
from tests.reading import Reading
from tests.samples import G, K, S, X, Y, example_plan, few_plans, made_plans, mixed_plan
from tests.support import (Hostile, assert_equal_by_attributes, assert_errors_in_order, assert_no_other_equal,
                           wrong_values)


def telling_plans():
    """Plans with a thing that may be there once, few couples, and all that can go wrong."""
    two = Book(2, 1, ((G, 1 - G),))
    sessions = Book(2, 2, ((G + S, G),))
    merging = Book(2, 1, ((G, G * 0),))
    return [
        Plan(two, 1, (("kept", X.by(0)),)),
        Plan(two, 1, (("kept", X.by(0)),), free=()),
        Plan(merging, 1, (("kept", X.by(0)),)),
        Plan(merging, 1, (("kept", X),)),
        Plan(merging, 1, (("check", X.by(0) + 1), ("kept", X.by(0)))),
        Plan(sessions, 1, (("kept", X.by(0)),), free=()),
        Plan(sessions, 1, (("kept", X.by(0)),), writers=(1,), askers=(0,)),
        Plan(sessions, 1, (("kept", X),)),
        Plan(sessions, 1, (("kept", X * S),), askers=(0,), writers=(1,), free=()),
        Plan(sessions, 1, (("kept", X), ("kept", K.by(0))), free=()),
        Plan(two, 1, (("kept", X.by(0)), ("check", K)), free=()),
        Plan(two, 1, (("kept", X.by(0)), ("check", X.by(0)), ("again", X))),
        Plan(two, 2, (("kept", X * 0),), free=()),
        Plan(two, 2, (("kept", X + Y),), free=()),
        Plan(Book(3, 1, ((G,),)), 1, (("kept", X * X),)),
        Plan(Book(3, 1, ((G,),)), 1, (("kept", X), ("kept", K + 1))),
        Plan(Book(3, 3, ((G,),)), 1, (("kept", S.same(0).then(X, X * 0)),), writers=(0,), askers=(0, 2)),
        Plan(Book(3, 3, ((G,),)), 1, (("kept", S.same(0).then(X, X * 0)),), writers=(0,), askers=(0,)),
        Plan(Book(3, 1, ((G, G + 1),)), 1, (("check", X), ("kept", X.by(0)))),
    ]


PLANS = telling_plans() + few_plans() + made_plans(51, 60)


class OnceReading(Reading):
    """Point [12], read a second time."""

    def __init__(self, plan, thing):
        super().__init__(plan)
        self.thing = thing
        self.start = (self.first[0], None, None)

    def couple_deeds(self, couple):
        found = [deed for deed in self.deeds((couple[0], None)) if deed[0] != "write"]
        for side in (0, 1):
            if couple[1 + side]:
                found += [("take", side)]
            else:
                found += [("write", side, row, s) for row, s in product(self.rows, self.writers)]
        return found

    def number(self, wording, setting, row):
        return self.plain(self.thing, wording, setting, row)

    def bars(self, couple, deed):
        """Whether a deed bars a row."""
        if deed[0] != "write":
            return False
        _, side, row, s = deed
        other = couple[1 + (1 - side)]
        return bool(other) and self.passes(couple[0], s, row) and other[1][self.thing] == self.number(couple[0], s,
                                                                                                      row)

    def bars_wrongly(self, couple, deed):
        if not self.bars(couple, deed):
            return False
        _, side, row, s = deed
        return self.number(couple[0], s, couple[1 + (1 - side)][0]) != self.number(couple[0], s, row)

    def couple_after(self, couple, deed):
        wording, sides = couple[0], list(couple[1:])
        if deed[0] in ("put", "build"):
            ends = [self.after((wording, held), deed) for held in sides]
            if deed[0] == "build" and ends[0][1] and ends[1][1]:
                if ends[0][1][1][self.thing] == ends[1][1][1][self.thing]:
                    return couple
            return (ends[0][0], ends[0][1], ends[1][1])
        if deed[0] == "take":
            sides[deed[1]] = None
        elif not self.bars(couple, deed):
            sides[deed[1]] = self.after((wording, None), ("write", deed[2], deed[3]))[1]
        return (wording, *sides)

    def twins(self, couple):
        wording, one, other = couple
        if one is None or other is None:
            return False
        return any(self.number(wording, s, one[0]) == self.number(wording, s, other[0]) for s in self.askers)

    def couple_levels(self, most):
        """The couples that come about, by the least number of deeds; at least so many that there are more than most."""
        seen, levels = {self.start}, [[self.start]]
        while levels[-1] and len(seen) <= most:
            following = {self.couple_after(couple, deed) for couple in levels[-1]
                         for deed in self.couple_deeds(couple)}
            levels.append(sorted(following - seen, key=repr))
            seen |= following
        return levels

    @lru_cache(None)
    def couples(self, most=400):
        return [couple for level in self.couple_levels(most) for couple in level]

    def first_twice(self):
        for many, level in enumerate(self.couple_levels(400)):
            if any(self.twins(couple) for couple in level):
                return many
            if any(self.bars_wrongly(couple, deed) for couple in level for deed in self.couple_deeds(couple)):
                # Twins after as many deeds cannot be sooner.
                return many + 1
        return None

    def closed(self, couples):
        """Whether a list of couples is what a Once has."""
        listed = set(couples)
        deeds = [(couple, deed) for couple in listed for deed in self.couple_deeds(couple)]
        return (self.start in listed and not any(self.twins(couple) for couple in listed)
                and not any(self.bars_wrongly(couple, deed) for couple, deed in deeds)
                and all(self.couple_after(couple, deed) in listed for couple, deed in deeds))

    def word_after(self, history):
        """The words that are right for a history, None if it is none."""
        couple, bars = self.start, False
        for deed in history:
            if deed not in self.couple_deeds(couple):
                return None
            bars = self.bars_wrongly(couple, deed)
            couple = self.couple_after(couple, deed)
        return [word for word, right in (("twins", self.twins(couple)), ("barred", bars)) if right]


@lru_cache(None)
def kept_things():
    """Triples of a plan, a thing that may be there once, and its reading."""
    return [(plan, thing, OnceReading(plan, thing)) for plan in PLANS
            for thing, (mode, _) in enumerate(plan.things) if mode == "kept"]


@lru_cache(None)
def judged(kind):
    """Quadruples of a plan, a thing, its reading, and what once tells, where it tells one of this kind."""
    small = [triple for triple in kept_things() if len(triple[2].couples()) <= 400]
    found = [(plan, thing, reading, once(plan, thing)) for plan, thing, reading in small]
    return [quadruple for quadruple in found if isinstance(quadruple[3], kind)]


def some_couples(reading, most=60):
    """Couples that come about, and others, many of which cannot come about."""
    held = [None, *reading.held()]
    others = list(product(reading.wordings(), held, held))
    return reading.couples()[:most] + others[::1 + len(others) // most]


class TestCouples(unittest.TestCase):
    def test_first_couple(self):
        for plan in PLANS:
            self.assertEqual(first_couple(plan), ((0,) * len(plan.book), None, None))

    def test_deeds_in_order(self):
        for plan, _, reading in kept_things()[:40]:
            for couple in some_couples(reading):
                self.assertEqual(couple_deeds(plan, couple), reading.couple_deeds(couple))

    def test_deeds_written_out(self):
        plan = Plan(Book(2, 2, ((G, S), (G,))), 1, (("kept", X), ("check", X)), free=(0,), writers=(1,))
        always = [("put", 0, 0), ("put", 0, 1), ("build", 0, 1), ("build", 1, 1)]
        writes = [[("write", side, (n,), 1) for n in range(2)] for side in range(2)]
        held, takes = ((0,), (1, 1)), [[("take", 0)], [("take", 1)]]
        for one, other in product((None, held), repeat=2):
            expected = always + (takes if one else writes)[0] + (takes if other else writes)[1]
            self.assertEqual(couple_deeds(plan, ((1, 0), one, other)), expected)

    def test_all_deeds(self):
        barred = 0
        for plan, thing, reading in kept_things():
            for couple in some_couples(reading, 16):
                for deed in reading.couple_deeds(couple)[::2]:
                    self.assertEqual(couple_after(plan, thing, couple, deed), reading.couple_after(couple, deed))
                    barred += reading.bars(couple, deed)
        self.assertGreater(barred, 100)

    def test_put_and_take(self):
        plan = example_plan()
        one, other = ((0,), (0, 1, 1)), ((1,), (0, 1, 1))
        self.assertEqual(couple_after(plan, 0, ((0,), one, other), ("put", 0, 1)), ((1,), one, other))
        self.assertEqual(couple_after(plan, 0, ((0,), one, other), ("take", 0)), ((0,), None, other))
        self.assertEqual(couple_after(plan, 0, ((0,), one, other), ("take", 1)), ((0,), one, None))

    def test_build(self):
        plan = Plan(Book(3, 1, ((G, G + 1),)), 1, (("kept", X.by(0)), ("kept", X), ("check", X.by(0))))
        zero, one, two = ((0,), (1, 0, 1)), ((1,), (2, 1, 1)), ((2,), (0, 0, 1))
        # By the first wording, each row has its own number, so what was kept by another one changes on both sides.
        self.assertEqual(couple_after(plan, 0, ((0,), zero, one), ("build", 0, 0)),
                         ((0,), ((0,), (0, 0, 1)), ((1,), (1, 1, 1))))
        # The rows would both keep 1: nothing is done on either side.
        same = ((0,), zero, ((0,), (0, 1, 1)))
        self.assertEqual(couple_after(plan, 0, same, ("build", 0, 0)), same)
        self.assertEqual(couple_after(plan, 1, same, ("build", 0, 0)), ((0,), ((0,), (0, 0, 1)), ((0,), (0, 1, 1))))
        # What is built is another thing, and the kept numbers were the same before: nothing is done.
        twice = ((0,), zero, ((2,), (1, 0, 1)))
        self.assertEqual(couple_after(plan, 0, twice, ("build", 1, 0)), twice)
        self.assertEqual(couple_after(plan, 1, twice, ("build", 1, 0)), ((0,), zero, ((2,), (1, 2, 1))))
        # A check that takes one of two such rows away leaves no two.
        self.assertEqual(couple_after(plan, 0, twice, ("build", 2, 0)), ((0,), None, ((2,), (1, 0, 1))))
        self.assertEqual(couple_after(plan, 1, ((1,), two, zero), ("build", 2, 0)), ((1,), None, zero))
        self.assertEqual(couple_after(plan, 0, ((0,), None, zero), ("build", 0, 0)), ((0,), None, ((0,), (0, 0, 1))))

    def test_build_of_what_is_read(self):
        plan = Plan(Book(2, 1, ((G,),)), 1, (("kept", X), ("kept", K)))
        couple = ((0,), ((0,), (1, 0)), ((1,), (1, 1)))
        self.assertEqual(couple_after(plan, 1, couple, ("build", 1, 0)), couple)
        self.assertEqual(couple_after(plan, 1, couple, ("build", 0, 0)), ((0,), ((0,), (0, 0)), ((1,), (1, 1))))

    def test_write(self):
        plan = Plan(Book(2, 2, ((G, 1 - G),)), 1, (("kept", X.by(0) + S), ("check", X)))
        zero, one = ((1,), (0, 1)), ((1,), (1, 1))
        for side in (0, 1):
            def couple(held, written, wording=(0,)):
                return (wording, held, written) if side else (wording, written, held)
            self.assertEqual(couple_after(plan, 0, couple(None, None), ("write", side, (1,), 0)), couple(None, one))
            self.assertEqual(couple_after(plan, 0, couple(None, None), ("write", side, (1,), 1)), couple(None, zero))
            self.assertEqual(couple_after(plan, 0, couple(None, None), ("write", side, (0,), 1)), couple(None, None))
            self.assertEqual(couple_after(plan, 0, couple(one, None), ("write", side, (1,), 0)), couple(one, None))
            self.assertEqual(couple_after(plan, 0, couple(one, None), ("write", side, (1,), 1)), couple(one, zero))
            self.assertEqual(couple_after(plan, 0, couple(zero, None), ("write", side, (1,), 0)), couple(zero, one))
            wording = (1,)
            self.assertEqual(couple_after(plan, 0, couple(zero, None, wording), ("write", side, (1,), 0)),
                             couple(zero, None, wording))

    def test_lists_are_new(self):
        plan = example_plan()
        expected = couple_deeds(plan, first_couple(plan))
        couple_deeds(plan, first_couple(plan)).clear()
        self.assertEqual(couple_deeds(plan, first_couple(plan)), expected)


class TestOnce(unittest.TestCase):
    def test_all_verdicts(self):
        seen = {}
        for plan, thing, reading, told in judged((Once, Twice)):
            least = reading.first_twice()
            self.assertIs(told.__class__, Once if least is None else Twice)
            self.assertEqual(first_twice(plan, thing), least)
            self.assertIs(told.shows(plan, thing), True)
            if least is None:
                self.assertTrue(reading.closed(told.couples))
            else:
                self.assertEqual(len(told.history), least)
                self.assertIn(told.word, reading.word_after(told.history))
            key = (least, getattr(told, "word", None))
            seen[key] = seen.get(key, 0) + 1
        self.assertGreaterEqual(seen[(None, None)], 5)
        self.assertTrue({word for _, word in seen} == {None, "twins", "barred"}, seen)
        self.assertTrue({least for least, _ in seen} >= {None, 2, 3, 4}, seen)

    def test_how_many_deeds(self):
        plans = telling_plans()
        self.assertEqual([first_twice(plans[at], 0) for at in (0, 1, 2, 3, 5, 7, 12)],
                         [3, None, 3, None, 2, None, None])
        self.assertEqual(first_twice(Plan(Book(2, 1, ((G * 0, G),)), 1, (("kept", X.by(0)),)), 0), 3)

    def test_barred_or_twins_alone(self):
        # Sessions mean other things: the asker takes all rows for the same, and no writer ever bars one wrongly.
        plan = Plan(Book(3, 3, ((G,),)), 1, (("kept", S.same(0).then(X, X * 0)),), writers=(0,), askers=(0, 2))
        self.assertEqual((once(plan, 0).word, first_twice(plan, 0)), ("twins", 2))
        self.assertIsInstance(once(Plan(plan.book, 1, plan.things, writers=(0,), askers=(0,)), 0), Once)
        # By its own writer alone each row passes, and is kept as the other one is by the other writer.
        plan = Plan(Book(2, 2, ((G,),)), 1, (("kept", X + S), ("check", X.same(S))))
        self.assertEqual((once(plan, 0).word, first_twice(plan, 0)), ("barred", 2))

    def test_larger_than_400(self):
        large = [triple for triple in kept_things() if len(triple[2].couples()) > 400]
        self.assertGreater(len(large), 5)
        for plan, thing, _ in large:
            self.assert_large(plan, thing)

    def test_about_400(self):
        # Both sides are alike, so couples come about in twos but for those without rows, one for each wording within
        # reach, and as many with each wording: there are never exactly 400, but there may be 399 and 401.
        book = Book(3, 3, ((G,),))
        for thing, other, many in [(("kept", X + Y), ("kept", (X * Y).then(X.same(S), S)), 399),
                                   (("kept", X * X.same(S)), ("again", S.then(Y, S)), 401)]:
            plan = Plan(book, 2, (thing, other), free=())
            self.assertEqual(len(OnceReading(plan, 0).couples(600)), many)
            if many < 400:
                self.assertEqual(len(once(plan, 0).couples), many)
                self.assertIs(once(plan, 0).shows(plan, 0), True)
                self.assertIsNone(first_twice(plan, 0))
            else:
                self.assert_large(plan, 0)

    def assert_large(self, plan, thing):
        for function in (once, first_twice):
            with self.assertRaises(TooLarge):
                function(plan, thing)

    def test_evidence_may_be_larger(self):
        large = Plan(Book(3, 3, ((G, G, G), (G, G), (G, G))), 1, (("kept", X), ("again", X * S)))
        couples = OnceReading(large, 0).couples(3000)
        self.assertGreater(len(couples), 400)
        self.assert_large(large, 0)
        self.assertIs(Once(couples).shows(large, 0), True)
        self.assertIs(Once(couples[:-1]).shows(large, 0), False)
        self.assertIs(Twice([("put", 0, 0)], "twins").shows(large, 0), False)

    def test_what_is_told_is_new(self):
        for at in (0, 1):
            plan = telling_plans()[at]
            one, other = once(plan, 0), once(plan, 0)
            self.assertIsNot(one, other)
            self.assertEqual(one, other)
            (one.history if at == 0 else one.couples).clear()
            self.assertNotEqual(one, once(plan, 0))
            self.assertEqual(other, once(plan, 0))

    def test_example_of_the_interface(self):
        plan = Plan(Book(2, 1, ((Form.given(), 1 - Form.given()),)), 1, (('kept', Form.column(0).by(0)),))
        history = [('write', 0, (0,), 0), ('put', 0, 1), ('write', 1, (1,), 0)]
        told = [first_twice(plan, 0), Twice(history, 'barred').shows(plan, 0),
                couple_after(plan, 0, ((0,), ((0,), (0,)), None), ('write', 1, (0,), 0))]
        self.assertEqual(told, [3, True, ((0,), ((0,), (0,)), None)])

    def test_argument_names(self):
        plan = telling_plans()[0]
        couple = first_couple(plan=plan)
        self.assertEqual(couple_deeds(plan=plan, couple=couple), couple_deeds(plan, couple))
        self.assertEqual(couple_after(plan=plan, thing=0, couple=couple, deed=("put", 0, 1)), ((1,), None, None))
        self.assertEqual((once(plan=plan, thing=0), first_twice(plan=plan, thing=0)), (once(plan, 0), 3))
        self.assertIs(Once(couples=[]).shows(plan=plan, thing=0), False)
        self.assertIs(Twice(history=[], word="twins").shows(plan=plan, thing=0), False)


class TestShowsOnce(unittest.TestCase):
    def test_any_order_and_more_than_once(self):
        for plan, thing, _, told in judged(Once):
            couples = told.couples
            for changed in (couples[::-1], couples + couples, couples[1:] + couples[:1],
                            sorted(couples, key=repr) + couples[:2]):
                self.assertIs(Once(changed).shows(plan, thing), True)

    def test_left_out(self):
        for plan, thing, _, told in judged(Once):
            self.assertIs(Once([]).shows(plan, thing), False)
            for at in range(0, len(told.couples), 1 + len(told.couples) // 25):
                self.assertIs(Once(told.couples[:at] + told.couples[at + 1:]).shows(plan, thing), False)

    def test_put_in(self):
        seen = {True: 0, False: 0}
        for plan, thing, reading, told in judged(Once):
            for couple in some_couples(reading, 12):
                changed = [couple] + told.couples
                shown = Once(changed).shows(plan, thing)
                self.assertIs(shown, reading.closed(changed))
                seen[shown] += 1
        self.assertTrue(seen[True] > 5 and seen[False] > 5, seen)

    def test_couples_that_cannot_come_about(self):
        # Without writers that pass, couples with rows cannot come about; some of them may be in the list, some not.
        plan = Plan(Book(3, 1, ((G,),)), 1, (("check", Form.number(0)), ("kept", X)), free=())
        start = first_couple(plan)
        self.assertEqual(once(plan, 1), Once([start]))
        held = [((n,), (1, n)) for n in range(3)]
        one = [((0,), side, None) for side in held[:2]] + [((0,), None, held[0])]
        self.assertIs(Once([start, *one]).shows(plan, 1), True)
        both = ((0,), held[0], held[1])
        self.assertIs(Once([start, ((0,), None, held[1]), ((0,), held[0], None), both]).shows(plan, 1), True)
        self.assertIs(Once([start, ((0,), held[0], None), both]).shows(plan, 1), False)
        twins = [start, ((0,), None, held[1]), ((0,), held[1], None), ((0,), held[1], held[1])]
        self.assertIs(Once(twins).shows(plan, 1), False)

    def test_a_row_barred_wrongly(self):
        # Rows with 0 do not pass, so no couple with one comes about; where 1 is kept for it, it bars 1 wrongly.
        plan = Plan(Book(2, 1, ((G,),)), 1, (("kept", X), ("check", X)), free=())
        reading, told = OnceReading(plan, 0), once(plan, 0)
        for couple, expected in [(((0,), ((0,), (0, 1)), None), True), (((0,), ((0,), (1, 1)), None), False),
                                 (((0,), None, ((0,), (1, 1))), False)]:
            closed = [*told.couples, couple]
            for one in closed:
                following = [reading.couple_after(one, deed) for deed in reading.couple_deeds(one)]
                closed += [other for other in following if other not in closed]
            self.assertFalse([one for one in closed if reading.twins(one)])
            self.assertIs(reading.closed(closed), expected)
            self.assertIs(Once(closed).shows(plan, 0), expected)

    def test_no_couples(self):
        for plan, thing, _, told in judged(Once)[:12]:
            wording, row, kept = (0,) * len(plan.book), (0,) * plan.columns, (1,) * len(plan)
            held = (row, kept)
            for wrong in [(wording, None), (wording, None, None, None), (wording + (0,), None, None),
                          ((9,) * len(wording), None, None),
                          ((False,) * len(wording), None, None), (wording, ((9,) * len(row), kept), None),
                          (wording, None, (row,)),
                          (wording, None, (row, kept + (1,))), (wording, (row, (True,) * len(kept)), None),
                          (wording, (), None),
                          (wording, held, ((False,) * len(row), kept)), ((), None, None),
                          (wording, None, (row, (3,) * len(kept)))]:
                self.assertIs(Once(told.couples + [wrong]).shows(plan, thing), False)
                self.assertIs(Once([wrong] + told.couples).shows(plan, thing), False)

    def test_of_another_thing(self):
        plan = Plan(Book(3, 1, ((G, G * 0),)), 1, (("kept", X), ("kept", X.by(0)), ("kept", K)), free=())
        for thing in (0, 1, 2):
            self.assertIs(once(plan, thing).shows(plan, thing), True)
            self.assertIs(once(plan, thing).shows(plan | [0], 1), False)

    def test_never_for_a_twice(self):
        for plan, thing, reading, _ in judged(Twice)[:25]:
            self.assertIs(Once(reading.couples()).shows(plan, thing), False)
            apart = [couple for couple in reading.couples() if not reading.twins(couple)]
            self.assertIs(Once(apart).shows(plan, thing), False)

    def test_current_attributes_and_copies(self):
        plan = telling_plans()[1]
        couples = once(plan, 0).couples
        told = Once(couples)
        kept = couples.pop()
        self.assertIs(told.shows(plan, 0), True)
        self.assertIs(Once(tuple(couples)).couples.__class__, list)
        told.couples = couples
        self.assertIs(told.shows(plan, 0), False)
        told.couples.append(kept)
        self.assertIs(told.shows(plan, 0), True)


class TestShowsTwice(unittest.TestCase):
    def assert_shown(self, plan, thing, reading, history):
        right = reading.word_after(history) if 1 <= len(history) <= 100 else None
        for word in ("twins", "barred", "Twins", "", "lost"):
            self.assertIs(Twice(history, word).shows(plan, thing), right is not None and word in right)
        return right

    def test_words_and_histories(self):
        seen = {}
        for plan, thing, reading, told in judged(Twice):
            history, couple = told.history, reading.start
            for deed in history:
                couple = reading.couple_after(couple, deed)
            changed = [history, history[::-1], history + history[-1:], history * 2, history[:-1], history[1:]]
            for at in range(len(history)):
                changed += [history[:at] + history[at + 1:], history[:at + 1] + history[at:]]
            changed += [history + [deed] for deed in reading.couple_deeds(couple)]
            for one in changed:
                right = repr(self.assert_shown(plan, thing, reading, one))
                seen[right] = seen.get(right, 0) + 1
        self.assertEqual(set(seen), {"None", "[]", "['twins']", "['barred']", "['twins', 'barred']"} & set(seen))
        self.assertTrue(all(seen.get(key, 0) > 10 for key in ("None", "[]", "['twins']", "['barred']")), seen)

    def test_twins_after_any_deed(self):
        # There are twins after all of these deeds, though the last ones did not make them.
        plan = Plan(Book(2, 1, ((G, G * 0),)), 1, (("kept", X.by(0)),))
        twins = [("write", 0, (0,), 0), ("write", 1, (1,), 0), ("put", 0, 1)]
        self.assertIs(Twice(twins, "twins").shows(plan, 0), True)
        self.assertIs(Twice(twins + [("build", 0, 0)], "twins").shows(plan, 0), True)
        self.assertIs(Twice(twins + [("put", 0, 1)] * 9, "twins").shows(plan, 0), True)
        self.assertIs(Twice(twins + [("put", 0, 0)], "twins").shows(plan, 0), False)
        self.assertIs(Twice(twins + [("take", 1)], "twins").shows(plan, 0), False)

    def test_barred_by_the_last_deed_alone(self):
        plan = telling_plans()[0]
        history = [("write", 0, (0,), 0), ("put", 0, 1), ("write", 1, (1,), 0)]
        self.assertIs(Twice(history, "barred").shows(plan, 0), True)
        self.assertIs(Twice(history + [("put", 0, 1)], "barred").shows(plan, 0), False)
        self.assertIs(Twice(history + history[2:], "barred").shows(plan, 0), True)
        # A row that is barred rightly, and one that does not pass, are not barred wrongly.
        self.assertIs(Twice([("write", 0, (0,), 0), ("write", 1, (0,), 0)], "barred").shows(plan, 0), False)
        checked = Plan(plan.book, 1, (("kept", X.by(0)), ("check", X.same(0))))
        self.assertIs(Twice(history, "barred").shows(checked, 0), False)
        other = [("write", 1, (0,), 0), ("put", 0, 1), ("write", 0, (1,), 0)]
        self.assertIs(Twice(other, "barred").shows(plan, 0), True)
        self.assertIs(Twice(other, "twins").shows(plan, 0), False)

    def test_a_hundred_deeds(self):
        plan = telling_plans()[0]
        history = [("write", 0, (0,), 0), ("put", 0, 1), ("write", 1, (1,), 0)]
        for many, expected in [(98, True), (99, False), (97, True)]:
            self.assertIs(Twice([("put", 0, 0)] * (many - 1) + history, "barred").shows(plan, 0), expected)
        self.assertIs(Twice([], "barred").shows(plan, 0), False)
        self.assertIs(Twice([], "twins").shows(plan, 0), False)

    def test_deeds_that_are_none(self):
        plan = telling_plans()[0]
        history = [("write", 0, (0,), 0), ("put", 0, 1), ("write", 1, (1,), 0)]
        for wrong in [("put", 0, 2), ("put", 1, 0), ("put", 0, True), ("put", 0), (), ("build", 1, 0),
                      ("build", 0, 1),
                      ("write", (0,), 0), ("write", 0, (1,), 0), ("write", 2, (1,), 0), ("write", True, (1,), 0),
                      ("take", 1),
                      ("take", 2), ("take", True), ("take",), ("take", 0, 0), ("write", 1, (2,), 0),
                      ("write", 1, (1,), 1),
                      ("write", 1, (True,), 0), ("write", 1, (1,), False), (0, 1, (1,), 0), ("shut", 0), None,
                      Hostile()]:
            for changed in (history[:2] + [wrong], history[:2] + [wrong] + history[2:], history + [wrong]):
                self.assertIs(Twice(changed, "barred").shows(plan, 0), False)

    def test_of_another_thing(self):
        plan = Plan(telling_plans()[0].book, 1, (("kept", X), ("kept", X.by(0))))
        history = [("write", 0, (0,), 0), ("put", 0, 1), ("write", 1, (1,), 0)]
        self.assertIs(Twice(history, "barred").shows(plan, 1), True)
        self.assertIs(Twice(history, "barred").shows(plan, 0), False)

    def test_current_attributes_and_copies(self):
        plan = telling_plans()[0]
        history = [("write", 0, (0,), 0), ("put", 0, 1), ("write", 1, (1,), 0)]
        told = Twice(history, "twins")
        history.clear()
        self.assertEqual((len(told.history), told.word), (3, "twins"))
        self.assertIs(told.shows(plan, 0), False)
        told.word = "barred"
        self.assertIs(told.shows(plan, 0), True)
        last = told.history.pop()
        self.assertIs(told.shows(plan, 0), False)
        told.history.append(last)
        self.assertIs(told.shows(plan, 0), True)
        told.history = []
        self.assertIs(told.shows(plan, 0), False)


class TestEqual(unittest.TestCase):
    def test_attributes(self):
        couple = ((0,), None, None)
        made = [(Once, ([],)), (Once, ([couple],)), (Once, ([couple] * 2,)), (Twice, ([], "twins")),
                (Twice, ([], "barred")),
                (Twice, ([("put", 0, 0)], "twins")), (Twice, ([("put", 0, 1)], "twins"))]
        assert_equal_by_attributes(self, made)

    def test_not_equal_to_other_classes(self):
        plan = example_plan()
        assert_no_other_equal(self, [Once([]), Twice([], "twins")], [plan, plan.book, X])


class TestErrors(unittest.TestCase):
    def setUp(self):
        self.plan = mixed_plan()
        self.no_plans = [None, *wrong_values()[::3], self.plan.book, X, Plan, (self.plan,)]
        self.no_things = [1, 2, 3, *wrong_values()[::3], True, False, -1, "0", (0,), Hostile()]

    def no_couples(self):
        row, kept = (0, 1), (1, 0, 1)
        held, wording = (row, kept), (0, 0)
        return [None, *wrong_values()[::3], wording, (wording,), (wording, None), (wording, None, None, None),
                [wording, None, None],
                (wording, held), ((0,), None, None), ((3, 0), None, None), ((0, 1), None, None),
                ((0, False), None, None),
                (None, None, None), (wording, False, None), (wording, None, False), (wording, 0, None),
                (wording, None, ()),
                (wording, row, None), (wording, (row,), held), (wording, held, (row, kept, kept)),
                (wording, [row, kept], None),
                (wording, (list(row), kept), None), (wording, None, (row, list(kept))),
                (wording, ((0, 2), kept), None),
                (wording, ((0, True), kept), None), (wording, None, (row, (1, 0, 0))),
                (wording, held, (row, (1, 0, True))),
                (wording, (row, (1, 2, 1)), held), (wording, None, Hostile()), (Hostile(), None, None),
                (wording, Hostile(), None)]

    def test_couples(self):
        plan = self.plan
        held = ((0, 1), (1, 0, 1))
        assert_errors_in_order(self, first_couple, (plan,), [(0, BadPlan, self.no_plans)])
        no_deeds = [None, *wrong_values()[::3], ("put", 1, 0), ("put", 0, 3), ("put", 0), ("put", 0, 0, 0),
                    ["put", 0, 1],
                    ("put", 0, True), ("build", 0, 0), ("build", 3, 1), ("build", 0, True), ("write", (0, 1), 1),
                    ("write", 2, (0, 1), 1), ("write", True, (0, 1), 1), ("write", 1, (0, 1), 0),
                    ("write", 1, (0, 2), 1),
                    ("write", 1, [0, 1], 1), ("write", 1, (0,), 1), ("write", 1, (0, True), 1),
                    ("write", 1, (0, 1), True),
                    ("write", 1, (0, 1)), ("take", 1, 0), ("take", 2), ("take", -1), ("take", False), ("take",),
                    ("shut", 0),
                    ("write", 1, (0, 1), Hostile()), ("take", Hostile()), (Hostile(), 0), Hostile()]
        for one, other, more, good in [
                (None, None, [("take", 0), ("take", 1)], ("write", 1, (0, 1), 1)),
                (held, None, [("take", 1), ("write", 0, (0, 1), 1)], ("take", 0)),
                (None, held, [("take", 0), ("write", 1, (0, 1), 1)], ("take", 1)),
                (held, held, [("write", 0, (0, 1), 1), ("write", 1, (0, 1), 1)], ("build", 2, 1))]:
            checks = [(0, BadPlan, self.no_plans[:4]), (1, BadThing, self.no_things),
                      (2, BadCouple, self.no_couples()),
                      (3, BadDeed, no_deeds + more)]
            assert_errors_in_order(self, couple_after, (plan, 0, ((1, 0), one, other), good), checks)
            assert_errors_in_order(self, couple_deeds, (plan, ((1, 0), one, other)), [
                (0, BadPlan, self.no_plans), (1, BadCouple, self.no_couples())])

    def test_verdicts(self):
        checks = [(0, BadPlan, self.no_plans), (1, BadThing, self.no_things)]
        for function in (Once([]).shows, Twice([], "twins").shows, Once([None]).shows, Twice([None], None).shows):
            assert_errors_in_order(self, function, (self.plan, 0), checks)
        plan = telling_plans()[11]
        for function in (once, first_twice):
            assert_errors_in_order(self, function, (plan, 0), checks)

    def test_bad_thing_ahead_of_too_large(self):
        plan = Plan(Book(3, 3, ((G, G, G), (G, G), (G, G))), 1, (("kept", X), ("again", X * S)))
        for function in (once, first_twice):
            with self.assertRaises(TooLarge):
                function(plan, 0)
            for thing in (1, 2, True):
                with self.assertRaises(BadThing):
                    function(plan, thing)


if __name__ == "__main__":
    unittest.main()
