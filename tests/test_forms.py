import unittest

from keptmeanings.books import Book
from keptmeanings.errors import BadForm, BadNumber
from keptmeanings.forms import Form
from tests.support import Plain, deep, size_as_told, trees_to, words_in, wrong_values

GIVEN = ("given",)
LEAVES = [("number", 0), ("number", 1), ("number", 2), GIVEN, ("setting",), ("column", 0), ("column", 1), ("kept", 0),
          ("kept", 1)]
MADE = [("call", 0, GIVEN), ("call", 1, GIVEN), ("call", 2, GIVEN), ("sum", GIVEN, ("number", 2)),
        ("less", ("kept", 1), GIVEN), ("times", ("column", 0), ("column", 1)), ("same", ("setting",), GIVEN),
        ("when", GIVEN, ("number", 0), ("kept", 0)), ("call", 2, ("when", GIVEN, ("sum", GIVEN, GIVEN), GIVEN))]
OUTSIDE = [-1, 3, 100, True, False, None, "1", "", (), (1,), [1], ("number", 1), object()]


def of_size(size):
    """A form in which exactly this many forms stand."""
    tree = GIVEN
    for _ in range(size - 1):
        tree = ("call", 0, tree)
    return Form(tree)


class TestTrees(unittest.TestCase):
    def assert_none(self, tree):
        with self.assertRaises(BadForm):
            Form(tree)

    def test_all_kinds_are_forms(self):
        for tree in LEAVES + MADE:
            self.assertEqual(Form(tree).tree, tree)
            self.assertEqual(len(Form(tree)), size_as_told(tree))

    def test_wrong_kinds_are_none(self):
        for value in wrong_values():
            self.assert_none(value)

    def test_other_words_and_lengths_are_none(self):
        for word in ("number", "given", "setting", "column", "kept", "call", "sum", "less", "times", "same", "when",
                     "add", "Given", "given ", "", "self"):
            for rest in [(), (0,), (GIVEN,), (0, 0), (0, GIVEN), (GIVEN, 0), (GIVEN, GIVEN), (0, GIVEN, GIVEN),
                         (GIVEN, GIVEN, GIVEN), (GIVEN, GIVEN, GIVEN, GIVEN), ((), ()), (GIVEN, None)]:
                tree = (word, *rest)
                if size_as_told(tree) is None:
                    self.assert_none(tree)
                else:
                    self.assertEqual(Form(tree).tree, tree)

    def test_limits_of_numbers(self):
        for word, limit in [("number", 3), ("column", 2), ("kept", 2)]:
            for n in range(limit):
                self.assertEqual(Form((word, n)).tree, (word, n))
            for n in [limit, *OUTSIDE]:
                self.assert_none((word, n))
        for k in OUTSIDE:
            self.assert_none(("call", k, GIVEN))

    def test_whatever_stands_anywhere_in_a_form(self):
        for tree in MADE:
            self.assert_each_place(tree, lambda changed: changed)

    def assert_each_place(self, tree, within):
        """Each item of the tree and of those in it is replaced; within tells the whole tree from the changed part."""
        for at, item in enumerate(tree):
            for value in [*wrong_values(), 0, 1, 2, 3, "given", "sum", list(item) if isinstance(item, tuple) else [item]]:
                changed = within((*tree[:at], value, *tree[at + 1:]))
                if isinstance(value, tuple) or size_as_told(changed) is None:
                    self.assert_none(changed)
                else:
                    self.assertEqual(Form(changed).tree, changed)
            if isinstance(item, tuple):
                self.assert_each_place(item, lambda part, at=at: within((*tree[:at], part, *tree[at + 1:])))

    def test_at_most_twelve(self):
        for size in (1, 2, 11, 12):
            self.assertEqual(len(of_size(size)), size)
        self.assert_none(("call", 0, of_size(12).tree))
        five = ("sum", ("sum", GIVEN, GIVEN), GIVEN)
        eleven = ("less", five, five)
        self.assertEqual(len(Form(eleven)), 11)
        self.assertEqual(len(Form(("call", 0, eleven))), 12)
        self.assert_none(("same", eleven, GIVEN))
        self.assert_none(("call", 0, ("call", 0, eleven)))
        self.assertEqual(len(Form(("when", GIVEN, five, five))), 12)
        self.assert_none(("when", ("call", 0, GIVEN), five, five))

    def test_what_stands_often_counts_often(self):
        tree = GIVEN
        for _ in range(200):
            tree = ("sum", tree, tree)
        self.assert_none(tree)

    def test_depth_does_not_matter(self):
        for word in [("call", 0), ("sum", GIVEN), ("when", GIVEN, GIVEN), ("number",), ()]:
            self.assert_none(deep(word, 100000))
            self.assert_none(("sum", GIVEN, deep(word, 100000)))
            self.assert_none((deep(word, 100000), GIVEN))

    def test_a_tree_is_not_a_list_and_is_not_modified(self):
        tree = ["sum", ["given"], ["number", 1]]
        self.assert_none(tree)
        self.assertEqual(tree, ["sum", ["given"], ["number", 1]])
        self.assert_none(("sum", ["given"], GIVEN))

    def test_a_form_is_not_a_tree(self):
        self.assert_none(Form(GIVEN))
        self.assert_none(("sum", Form(GIVEN), GIVEN))

    def test_argument_names(self):
        self.assertEqual(Form(tree=GIVEN).tree, GIVEN)


class TestMakers(unittest.TestCase):
    def test_forms_of_words(self):
        for n in range(3):
            self.assertEqual(Form.number(n).tree, ("number", n))
        for n in range(2):
            self.assertEqual(Form.column(n).tree, ("column", n))
            self.assertEqual(Form.kept(n).tree, ("kept", n))
        self.assertEqual(Form.given().tree, ("given",))
        self.assertEqual(Form.setting().tree, ("setting",))
        self.assertEqual([Form.number(n=1), Form.column(c=1), Form.kept(t=1)],
                         [Form.number(1), Form.column(1), Form.kept(1)])

    def test_off_an_object_too(self):
        form = Form.given() + 1
        self.assertEqual([form.number(2), form.column(0), form.kept(1), form.given(), form.setting()],
                         [Form.number(2), Form.column(0), Form.kept(1), Form.given(), Form.setting()])

    def test_no_such_number(self):
        for maker, limit in [(Form.number, 3), (Form.column, 2), (Form.kept, 2)]:
            for value in [limit, *OUTSIDE, *wrong_values()]:
                with self.assertRaises(BadNumber):
                    maker(value)


class TestProperties(unittest.TestCase):
    def test_calls_columns_reads(self):
        x, y = Form.column(1), Form.column(0)
        form = x.by(2) + (y.by(0) + x.by(2)) * Form.kept(1)
        self.assertEqual((form.calls, form.columns, form.reads), ((0, 2), (0, 1), (1,)))
        form = (Form.kept(1) + Form.kept(0)).then(x.by(1).by(1), 2)
        self.assertEqual((form.calls, form.columns, form.reads), ((1,), (1,), (0, 1)))
        form = Form.number(1) + Form.given() + Form.setting()
        self.assertEqual((form.calls, form.columns, form.reads), ((), (), ()))

    def test_words(self):
        form = Form.given().by(1).then(Form.setting() - 2, Form.column(0))
        for word in ("when", "call", "given", "less", "setting", "number", "column"):
            self.assertIs(word in form, True)
        for word in ("kept", "sum", "times", "same", "", "giv", "call1", "Given"):
            self.assertIs(word in form, False)

    def test_words_of_any_kind(self):
        forms = [Form(tree) for tree in LEAVES + MADE]
        for form in forms:
            for value in [*wrong_values(), 0, 1, 2, form, form.tree, ["given"], Form, 1.5]:
                self.assertIs(value in form, isinstance(value, str) and value in words_in(form.tree))

    def test_how_many(self):
        self.assertEqual([len(Form.given()), len(Form.given().by(0)), len(Form.given() * 2),
                          len(Form.given().then(1, Form.kept(0).by(1)))], [1, 2, 3, 5])
        for tree in trees_to(4, [GIVEN, ("number", 1)], [0]):
            self.assertEqual(len(Form(tree)), size_as_told(tree))

    def test_equal(self):
        for tree in LEAVES + MADE:
            for other in LEAVES + MADE:
                self.assertIs(Form(tree) == Form(other), tree == other)
                self.assertIs(Form(tree) != Form(other), tree != other)
        self.assertEqual(Form.given() + 1, Form(("sum", GIVEN, ("number", 1))))
        self.assertNotEqual(Form.given() + 1, 1 + Form.given())

    def test_not_equal_to_other_classes(self):
        form = Form.number(1)
        for other in [1, ("number", 1), ["number", 1], "1", None, Plain(), Form, Book(2, 1, ((form,),))]:
            self.assertIs(form == other, False)
            self.assertIs(other == form, False)
            self.assertIs(form != other, True)


class TestOperators(unittest.TestCase):
    def setUp(self):
        self.one = Form.given()
        self.two = Form.setting()

    def test_two_forms(self):
        one, two = self.one, self.two
        self.assertEqual((one + two).tree, ("sum", ("given",), ("setting",)))
        self.assertEqual((one - two).tree, ("less", ("given",), ("setting",)))
        self.assertEqual((one * two).tree, ("times", ("given",), ("setting",)))
        self.assertEqual(one.same(two).tree, ("same", ("given",), ("setting",)))
        self.assertEqual(one.then(two, one).tree, ("when", ("given",), ("setting",), ("given",)))
        self.assertEqual(one.then(one=two, other=one), one.then(two, one))
        self.assertEqual(one.same(other=two), one.same(two))

    def test_numbers_on_either_side(self):
        one = self.one
        for n in range(3):
            number = ("number", n)
            self.assertEqual((one + n).tree, ("sum", GIVEN, number))
            self.assertEqual((n + one).tree, ("sum", number, GIVEN))
            self.assertEqual((one - n).tree, ("less", GIVEN, number))
            self.assertEqual((n - one).tree, ("less", number, GIVEN))
            self.assertEqual((one * n).tree, ("times", GIVEN, number))
            self.assertEqual((n * one).tree, ("times", number, GIVEN))
            self.assertEqual(one.same(n).tree, ("same", GIVEN, number))
            self.assertEqual(one.then(n, one).tree, ("when", GIVEN, number, GIVEN))
            self.assertEqual(one.then(one, n).tree, ("when", GIVEN, GIVEN, number))
            self.assertEqual(one.then(n, 2 - n).tree, ("when", GIVEN, number, ("number", 2 - n)))

    def test_minus(self):
        self.assertEqual((-self.one).tree, ("less", ("number", 0), GIVEN))
        self.assertEqual(-self.one, 0 - self.one)

    def test_by(self):
        for k in range(3):
            self.assertEqual(self.one.by(k).tree, ("call", k, GIVEN))
            self.assertEqual(self.one.by(k=k).tree, ("call", k, GIVEN))

    def test_forms_are_not_changed(self):
        one = self.one + 1
        for made in [one + one, one - 1, 2 * one, -one, one.same(one), one.then(1, one), one.by(1)]:
            self.assertIsNot(made, one)
        self.assertEqual(one.tree, ("sum", GIVEN, ("number", 1)))
        kept = one
        kept += 2
        self.assertEqual((one.tree, len(kept)), (("sum", GIVEN, ("number", 1)), 5))

    def test_wrong_operands(self):
        one = self.one
        for value in [*wrong_values(), 3, GIVEN, Form, Book(2, 1, ((one,),))]:
            for made in [lambda: one + value, lambda: one - value, lambda: one * value, lambda: one.same(value),
                         lambda: one.then(value, one), lambda: one.then(one, value), lambda: one.then(value, value)]:
                with self.assertRaises(BadForm):
                    made()

    def test_wrong_operands_in_front(self):
        one = self.one
        for value in [*wrong_values(), 3, GIVEN, Book(2, 1, ((one,),))]:
            for made in [lambda: value + one, lambda: value - one, lambda: value * one]:
                with self.assertRaises(BadForm):
                    made()

    def test_at_most_twelve(self):
        one = self.one
        makers = [(lambda form: form + 1, 2), (lambda form: 1 + form, 2), (lambda form: form - one, 2),
                  (lambda form: 2 - form, 2), (lambda form: form * 0, 2), (lambda form: one * form, 2),
                  (lambda form: -form, 2), (lambda form: form.same(1), 2), (lambda form: one.same(form), 2),
                  (lambda form: form.then(1, one), 3), (lambda form: one.then(form, 0), 3),
                  (lambda form: one.then(1, form), 3), (lambda form: form.by(0), 1)]
        for maker, more in makers:
            self.assertEqual(len(maker(of_size(11 - more))), 11)
            self.assertEqual(len(maker(of_size(12 - more))), 12)
            for size in range(13 - more, 13):
                with self.assertRaises(BadForm):
                    maker(of_size(size))

    def test_at_most_twelve_of_two(self):
        for one in range(1, 13):
            for other in range(1, 13):
                for maker in (Form.__add__, Form.__sub__, Form.__mul__, Form.same):
                    if one + other <= 11:
                        self.assertEqual(len(maker(of_size(one), of_size(other))), one + other + 1)
                    else:
                        with self.assertRaises(BadForm):
                            maker(of_size(one), of_size(other))

    def test_by_asks_for_the_number_first(self):
        for form in (of_size(1), of_size(11), of_size(12)):
            for value in [3, *OUTSIDE, *wrong_values()]:
                with self.assertRaises(BadNumber):
                    form.by(value)
        with self.assertRaises(BadForm):
            of_size(12).by(2)


if __name__ == "__main__":
    unittest.main()
