import unittest
from itertools import product

from keptmeanings.books import Book
from keptmeanings.errors import BadPlan, BadRow, BadSetting, BadWording
from keptmeanings.forms import Form
from keptmeanings.plans import Plan
from keptmeanings.values import passes, plain
from tests.reading import Reading
from tests.samples import G, K, L, S, X, Y, few_plans, made_plans, mixed_plan
from tests.support import assert_errors_in_order, trees_to, wrong_values


def everywhere(plan):
    """All wordings, settings and rows of a plan, also settings of nobody who writes or asks."""
    rows = product(range(plan.book.base), repeat=plan.columns)
    return list(product(plan.book.wordings(), range(plan.book.settings), rows))


class TestPlain(unittest.TestCase):
    def assert_as_told(self, plan):
        reading = Reading(plan)
        for wording, setting, row in everywhere(plan):
            numbers = plain(plan, wording, setting, row)
            expected = tuple(reading.plain(thing, wording, setting, row) for thing in range(len(plan)))
            self.assertEqual((numbers, numbers.__class__), (expected, tuple))
            self.assertIs(passes(plan, wording, setting, row), reading.passes(wording, setting, row))

    def test_plans(self):
        for plan in few_plans() + made_plans(5, 200):
            self.assert_as_told(plan)

    def test_all_small_forms(self):
        book = Book(2, 2, ((1 - G, S, G),))
        for tree in trees_to(3, [("setting",), ("column", 0), ("column", 1), ("kept", 0), ("number", 1)], [0]):
            for mode in ("kept", "again", "check"):
                self.assert_as_told(Plan(book, 2, (("kept", X + Y), (mode, Form(tree)))))

    def test_kept_is_the_plain_number(self):
        plan = Plan(Book(3, 2, ((G + S, G * G),)), 1, (("kept", X.by(0)), ("kept", K.by(0)), ("again", K * 2 + L)))
        self.assertEqual(plain(plan, (0,), 0, (2,)), (2, 2, 0))
        self.assertEqual(plain(plan, (0,), 1, (1,)), (2, 0, 1))
        self.assertEqual(plain(plan, (1,), 1, (2,)), (1, 1, 0))

    def test_passing(self):
        plan = Plan(Book(2, 1, ((G,),)), 2, (("kept", X * 0), ("check", X), ("check", Y)))
        self.assertEqual([passes(plan, (0,), 0, row) for row in plan.rows()], [False, False, False, True])
        plan = Plan(Book(2, 1, ((G,),)), 1, (("kept", X), ("again", X)))
        self.assertEqual([passes(plan, (0,), 0, row) for row in plan.rows()], [True, True])
        plan = Plan(Book(3, 1, ((G,),)), 1, (("check", X),))
        self.assertEqual([passes(plan, (0,), 0, row) for row in plan.rows()], [False, True, True])

    def test_argument_names(self):
        plan = mixed_plan()
        self.assertEqual(plain(plan=plan, wording=(2, 0), setting=1, row=(0, 1)), plain(plan, (2, 0), 1, (0, 1)))
        self.assertEqual(passes(plan=plan, wording=(2, 0), setting=1, row=(0, 1)), passes(plan, (2, 0), 1, (0, 1)))

    def test_settings_of_nobody(self):
        plan = Plan(Book(3, 3, ((G,),)), 1, (("kept", S),), writers=(0,), askers=(1,))
        self.assertEqual([plain(plan, (0,), setting, (0,)) for setting in range(3)], [(0,), (1,), (2,)])


class TestErrors(unittest.TestCase):
    def test_errors_in_order(self):
        plan = mixed_plan()
        checks = [
            (0, BadPlan, [*wrong_values(), plan.book, X, Plan, (plan,)]),
            (1, BadWording, [*wrong_values(), (0,), (3, 0), (0, 1), (0, 0, 0), [0, 0], (0, False), "00"]),
            (2, BadSetting, [*wrong_values(), 2, 3, "0", (0,)]),
            (3, BadRow, [*wrong_values(), (0,), (0, 2), (2, 0), (0, -1), [0, 0], (0, 0, 0), (0, True), (False, 0),
                         "00", 0, (0, None), (0, (0,)), {0: 0, 1: 0}, plan]),
        ]
        for function in (plain, passes):
            assert_errors_in_order(self, function, (plan, (0, 0), 1, (0, 1)), checks)

    def test_the_plan_is_told_as_no_part(self):
        for function in (plain, passes):
            with self.assertRaises(BadPlan) as caught:
                function(None, (0,), 0, (0,))
            self.assertIsNone(caught.exception.part)

    def test_rows_of_one_column(self):
        plan = Plan(Book(3, 1, ((G,),)), 1, (("kept", X),))
        for row in [(3,), (0, 0), (), 0, [0], (True,), (-1,), "0"]:
            for function in (plain, passes):
                with self.assertRaises(BadRow):
                    function(plan, (0,), 0, row)


if __name__ == "__main__":
    unittest.main()
