import unittest
from itertools import combinations, product

from keptmeanings.books import Book
from keptmeanings.errors import BadFree, BadPlan, BadThing
from keptmeanings.forms import Form
from keptmeanings.plans import Plan
from tests.samples import G, K, L, S, X, few_plans, made_plans
from tests.support import Plain, wrong_values

BOOK = Book(2, 2, ((G, 1 - G), (G.by(0),)))
THREE = Book(3, 3, ((G,), (G.by(0), G), (G, G.by(1), G.by(0))))
ONE = (("kept", X),)
MODES = ("kept", "again", "check")


def is_some_functions(value, kinds):
    """Whether a value is a list or tuple, as kinds say, of nothing but the integer 0, perhaps empty."""
    return isinstance(value, kinds) and all(isinstance(one, int) and one is not False and one == 0 for one in value)


def subsets(many, least):
    return [some for size in range(least, many + 1) for some in combinations(range(many), size)]


class TestMaking(unittest.TestCase):
    def test_properties(self):
        for book, columns in product((BOOK, THREE), (1, 2)):
            things = (("kept", X), ("check", K.by(1) + 1), ("again", K * S))
            for many in (1, 2, 3):
                plan = Plan(book, columns, things[:many])
                self.assertEqual((plan.book, plan.columns, plan.things), (book, columns, things[:many]))
                self.assertEqual(len(plan), many)
                self.assertEqual([plan[thing] for thing in range(many)], list(things[:many]))

    def test_left_out(self):
        for book, functions, settings in [(BOOK, (0, 1), (0, 1)), (THREE, (0, 1, 2), (0, 1, 2)),
                                          (Book(2, 1, ((G,),)), (0,), (0,))]:
            for plan in (Plan(book, 1, ONE), Plan(book, 1, ONE, free=None, writers=None, askers=None)):
                self.assertEqual((plan.free, plan.writers, plan.askers), (functions, settings, settings))

    def test_given(self):
        for free, writers, askers in product(subsets(3, 0), subsets(3, 1), subsets(3, 1)):
            plan = Plan(THREE, 1, ONE, free=free, writers=writers, askers=askers)
            self.assertEqual((plan.free, plan.writers, plan.askers), (free, writers, askers))
        plan = Plan(askers=(1,), things=ONE, columns=2, book=BOOK, free=(1,))
        self.assertEqual((plan.free, plan.writers, plan.askers, plan.columns), ((1,), (0, 1), (1,), 2))

    def test_keyword_only(self):
        with self.assertRaises(TypeError):
            Plan(BOOK, 1, ONE, (0,))

    def test_all_modes(self):
        for modes in [one for many in (1, 2, 3) for one in product(MODES, repeat=many)]:
            things = tuple((mode, X) for mode in modes)
            self.assertEqual(Plan(BOOK, 1, things).things, things)


class TestWrongParts(unittest.TestCase):
    def assert_part(self, part, book, columns, things, **more):
        with self.assertRaises(BadPlan) as caught:
            Plan(book, columns, things, **more)
        self.assertEqual(caught.exception.part, part)
        self.assertIs(caught.exception.__class__, BadPlan)

    def test_not_a_book(self):
        for value in [*wrong_values(), 1, X, ONE, Book, (2, 1, ((G,),)), Plan(BOOK, 1, ONE)]:
            self.assert_part(None, value, 1, ONE)
            self.assert_part(None, value, value, value, free=value, writers=value, askers=value)

    def test_columns(self):
        for value in [*wrong_values(), 0, 3, "1", (1,), BOOK]:
            self.assert_part("COLUMNS", BOOK, value, ONE)
            self.assert_part("COLUMNS", THREE, value, ONE)

    def test_things_are_a_tuple_of_pairs(self):
        wrong = [*wrong_values(), X, [("kept", X)], {"kept": X}, {0: ("kept", X)}, ("kept", X), (["kept", X],), (("kept",),),
                 (("kept", X, X),), ((X, "kept"),), (("kept", X.tree),), (("kept", 1),), (("kept", None),),
                 (("kept", (X,)),), ((0, X),), ((None, X),), (("Kept", X),), (("keep", X),), (("", X),),
                 ((("kept",), X),), ((b"kept", X),), (("kept", Form),), (iter(("kept", X)),), ({"kept": X},),
                 (("given", X),), (("column", X),), (("kept again", X),), (("k", X),)]
        for things in wrong:
            self.assert_part("THINGS", BOOK, 1, things)
        for value in wrong_values():
            self.assert_part("THINGS", BOOK, 1, (value,))
            self.assert_part("THINGS", BOOK, 1, (("check", X), value))
            self.assert_part("THINGS", BOOK, 1, ((value, X),))
            self.assert_part("THINGS", BOOK, 1, (("kept", X), ("again", value)))

    def test_how_many_things(self):
        for many in range(6):
            if many in (1, 2, 3):
                self.assertEqual(len(Plan(BOOK, 1, ONE * many)), many)
            else:
                self.assert_part("THINGS", BOOK, 1, ONE * many)

    def assert_form(self, right, form, book=BOOK, columns=2):
        """The form is right, or not, as that of a thing, alone and within others and behind other things."""
        for made in (form, form + X, X.same(form), form.by(0), X.then(1, form)):
            for things in [(("check", made),), (("again", S), ("kept", made)), (("again", S), ("again", X), ("check", made))]:
                if right:
                    self.assertEqual(Plan(book, columns, things).things, things)
                else:
                    self.assert_part("THINGS", book, columns, things)

    def test_numbers_of_the_book(self):
        for n in range(3):
            self.assert_form(n < 2, Form.number(n), BOOK)
            self.assert_form(True, Form.number(n), THREE)

    def test_no_given(self):
        self.assert_form(False, G)
        self.assert_form(True, S)

    def test_functions_of_the_book(self):
        for many in (1, 2, 3):
            book = Book(3, 1, ((G,),) * many)
            for k in range(3):
                self.assert_form(k < many, X.by(k), book)

    def test_columns_of_the_plan(self):
        for columns in (1, 2):
            for book in (BOOK, THREE):
                self.assert_form(True, Form.column(0), book, columns)
                self.assert_form(columns == 2, Form.column(1), book, columns)

    def test_kept_of_earlier_kept_things(self):
        for many, read in product((1, 2, 3), (0, 1)):
            for modes in product(MODES, repeat=many):
                for form in (Form.kept(read), X + Form.kept(read), X.then(Form.kept(read).by(0), 1)):
                    things = (*[(mode, X) for mode in modes[:-1]], (modes[-1], form))
                    if read < many - 1 and modes[read] == "kept":
                        self.assertEqual(Plan(BOOK, 1, things).things, things)
                    else:
                        self.assert_part("THINGS", BOOK, 1, things)
        self.assert_part("THINGS", BOOK, 1, (("kept", L), ("kept", X)))
        self.assert_part("THINGS", BOOK, 1, (("kept", X), ("again", X), ("check", K + L)))
        self.assertEqual(len(Plan(BOOK, 1, (("kept", X), ("kept", K), ("check", K + L)))), 3)

    def test_free_writers_askers(self):
        wrong = [*[value for value in wrong_values() if value is not None and not is_some_functions(value, tuple)],
                 [0], [1], (2,), (0, 2), (1, 0), (0, 0), (0, 0, 1), (1, 1), (-1,), (-1, 0), (0, True), (False,), (False, 1),
                 ("0",), "0", "01", (0, None), ((0,),), {0: 0, 1: 1}, (0, 1, 2), 0, 1, [], X, BOOK]
        for value in wrong:
            self.assert_part("FREE", BOOK, 1, ONE, free=value)
            self.assert_part("WRITERS", BOOK, 1, ONE, writers=value)
            self.assert_part("ASKERS", BOOK, 1, ONE, askers=value)
        self.assert_part("WRITERS", BOOK, 1, ONE, writers=())
        self.assert_part("ASKERS", BOOK, 1, ONE, askers=())
        self.assertEqual(Plan(BOOK, 1, ONE, free=()).free, ())

    def test_limits_of_functions_and_settings(self):
        for functions, settings in product((1, 2, 3), (1, 2, 3)):
            book = Book(3, settings, ((G,),) * functions)
            for k in range(4):
                if k < functions:
                    self.assertEqual(Plan(book, 1, ONE, free=(k,)).free, (k,))
                else:
                    self.assert_part("FREE", book, 1, ONE, free=(k,))
                if k < settings:
                    plan = Plan(book, 1, ONE, writers=(k,), askers=(k,))
                    self.assertEqual((plan.writers, plan.askers), ((k,), (k,)))
                else:
                    self.assert_part("WRITERS", book, 1, ONE, writers=(k,))
                    self.assert_part("ASKERS", book, 1, ONE, askers=(k,))

    def test_the_first_wrong_part_is_told(self):
        parts = (None, "COLUMNS", "THINGS", "FREE", "WRITERS", "ASKERS")
        good = (BOOK, 1, ONE, (0,), (1,), (0, 1))
        for value in [True, [], {}, "x", -1, object(), (9,), ("kept", X)]:
            for wrong in product((False, True), repeat=6):
                made = [value if bad else part for bad, part in zip(wrong, good)]
                if any(wrong):
                    part = parts[wrong.index(True)]
                    self.assert_part(part, *made[:3], free=made[3], writers=made[4], askers=made[5])


class TestLooking(unittest.TestCase):
    def test_things(self):
        for many in (1, 2, 3):
            plan = Plan(BOOK, 1, ONE * many)
            for value in [*wrong_values(), many, 3, -many, "0", slice(0, 1), plan, X]:
                with self.assertRaises(BadThing):
                    plan[value]
                with self.assertRaises(BadThing):
                    plan.names(value)

    def test_rows(self):
        for base, columns in product((2, 3), (1, 2)):
            plan = Plan(Book(base, 1, ((G,),)), columns, ONE)
            self.assertEqual(plan.rows(), list(product(range(base), repeat=columns)))
        self.assertEqual(Plan(BOOK, 2, ONE).rows(), [(0, 0), (0, 1), (1, 0), (1, 1)])

    def test_lists_are_new(self):
        plan = Plan(BOOK, 2, (("kept", X.by(1)),))
        for told in (plan.rows, lambda: plan.names(0)):
            first = told()
            expected = list(first)
            first.append(None)
            first[0] = None
            self.assertEqual(told(), expected)

    def test_iterating(self):
        plan = Plan(BOOK, 2, ONE)
        for work in [iter, list, tuple, sorted, lambda plan: [one for one in plan], lambda plan: [*plan]]:
            with self.assertRaises(TypeError):
                work(plan)


class TestFree(unittest.TestCase):
    def test_put_in_and_taken_out(self):
        for free, some in product(subsets(3, 0), subsets(3, 0)):
            plan = Plan(THREE, 2, ONE, free=free, writers=(1,), askers=(0, 2))
            more = Plan(THREE, 2, ONE, free=tuple(sorted({*free, *some})), writers=(1,), askers=(0, 2))
            less = Plan(THREE, 2, ONE, free=tuple(sorted({*free} - {*some})), writers=(1,), askers=(0, 2))
            for given in (some, list(some), some[::-1], [*some, *some], (*some[::-1], *some)):
                kept = list(given)
                self.assertEqual((plan | given).free, more.free)
                self.assertEqual((plan - given).free, less.free)
                self.assertEqual((plan | given, plan - given), (more, less))
                self.assertEqual((list(given), plan.free), (kept, free))

    def test_not_free(self):
        plan = Plan(BOOK, 1, ONE, free=(0,))
        wrong = [value for value in wrong_values() if not is_some_functions(value, (list, tuple))]
        for value in [*wrong, 0, 1, (2,), [0, 2], [0, True], (False,), [-1], ["0"], "0", "01", {0: 1}, {0}, range(1),
                      [None], [(0,)], [0, [1]], plan, iter([0]), b"0", bytearray(b"")]:
            with self.assertRaises(BadFree):
                plan | value
            with self.assertRaises(BadFree):
                plan - value
        self.assertEqual(plan.free, (0,))

    def test_places_of_the_operators(self):
        plan = Plan(BOOK, 1, ONE, free=())
        other = plan
        other |= [1]
        self.assertEqual((plan.free, other.free), ((), (1,)))
        other -= (1,)
        self.assertEqual(other, plan)


class TestEqual(unittest.TestCase):
    def test_all_six(self):
        made = [((book, columns, things), {"free": free, "writers": writers, "askers": askers})
                for book in (BOOK, Book(2, 2, ((G, 1 - G), (G,)))) for columns in (1, 2)
                for things in (ONE, (("again", X),), (("kept", X + 0),), ONE * 2)
                for free in ((0,), (0, 1)) for writers in ((0,), (0, 1)) for askers in ((1,), (0, 1))]
        plans = [Plan(*parts, **more) for parts, more in made]
        for (at, one), (place, other) in product(enumerate(plans), enumerate(plans)):
            self.assertIs(one == other, at == place)
            self.assertIs(one != other, at != place)
        for plan, (parts, more) in zip(plans, made):
            self.assertEqual(plan, Plan(*parts, **more))
        self.assertEqual(Plan(BOOK, 1, ONE), Plan(BOOK, 1, ONE, free=(0, 1), writers=(0, 1), askers=(0, 1)))

    def test_not_equal_to_other_classes(self):
        plan = Plan(BOOK, 1, ONE)
        for other in [BOOK, X, ONE, (BOOK, 1, ONE), None, 1, "plan", Plain(), Plan]:
            self.assertIs(plan == other, False)
            self.assertIs(other == plan, False)
            self.assertIs(plan != other, True)


def named_as_told(plan, thing):
    """The functions that a thing names, by asking for each one alone as point [9] says."""
    def calls(tree, k):
        return tree[:2] == ("call", k) or any(calls(part, k) for part in tree if isinstance(part, tuple))

    def reads(tree, t):
        return tree == ("kept", t) or any(reads(part, t) for part in tree if isinstance(part, tuple))

    def names(thing, k):
        tree = plan.things[thing][1].tree
        return (calls(tree, k) or any(reads(tree, earlier) and names(earlier, k) for earlier in range(thing))
                or any(names(thing, other) and any(calls(body.tree, k) for body in plan.book[other])
                       for other in range(k + 1, len(plan.book))))
    return [k for k in range(len(plan.book)) if names(thing, k)]


class TestNames(unittest.TestCase):
    def test_calls(self):
        for some in subsets(3, 0):
            form = Form.number(0)
            for k in some:
                form = form + X.by(k)
            self.assertEqual(Plan(Book(2, 1, ((G,),) * 3), 1, (("check", form),)).names(0), list(some))

    def test_through_functions(self):
        book = Book(2, 1, ((G, S), (G, G.by(0) * 0), (G, G, G.by(1))))
        plan = Plan(book, 1, (("again", X.by(0)), ("kept", X.by(1)), ("check", X.by(2))))
        self.assertEqual([plan.names(thing) for thing in range(3)], [[0], [0, 1], [0, 1, 2]])
        book = Book(2, 1, ((G,), (G,), (G.by(0), G)))
        plan = Plan(book, 1, (("kept", X.by(2)), ("again", X), ("kept", X.by(1).by(2))), free=())
        self.assertEqual([plan.names(thing) for thing in range(3)], [[0, 2], [], [0, 1, 2]])

    def test_through_things(self):
        book = Book(2, 1, ((G,), (G.by(0),), (G,)))
        plan = Plan(book, 1, (("kept", X.by(1)), ("kept", K * 0), ("check", L.by(2))))
        self.assertEqual([plan.names(thing) for thing in range(3)], [[0, 1], [0, 1], [0, 1, 2]])
        plan = Plan(book, 1, (("kept", X), ("kept", X.by(2)), ("again", K)))
        self.assertEqual([plan.names(thing) for thing in range(3)], [[], [2], []])

    def test_many_plans(self):
        for plan in few_plans() + made_plans(4, 300):
            for thing in range(len(plan)):
                self.assertEqual(plan.names(thing), named_as_told(plan, thing))

    def test_example_of_the_interface(self):
        x = X.by(0)
        plan = Plan(Book(3, 1, ((G * G, G.then(1, 0), G),)), 1, (("kept", x), ("check", x)))
        self.assertEqual(plan.names(1), [0])


if __name__ == "__main__":
    unittest.main()
