import unittest
from itertools import product

from keptmeanings.books import Book
from keptmeanings.errors import BadBody, BadBook, BadFunction, BadNumber, BadSetting, BadWording
from keptmeanings.forms import Form
from tests.support import Plain, assert_errors_in_order, told_as_told, trees_to, wrong_values

G, S = Form.given(), Form.setting()
ONE = ((G,),)


def small_book():
    """Three functions with two, three and one bodies, base 3, two settings."""
    return Book(3, 2, ((G + 1, G * G), (G.by(0) + S, S.then(G, 2), G - S), (G.by(1).by(0).then(G.by(1), -G),)))


class TestParts(unittest.TestCase):
    def assert_part(self, part, base, settings, functions):
        with self.assertRaises(BadBook) as caught:
            Book(base, settings, functions)
        self.assertEqual(caught.exception.part, part)

    def test_properties(self):
        functions = ((G, S), (G.by(0),))
        for base in (2, 3):
            for settings in range(1, base + 1):
                book = Book(base, settings, functions)
                self.assertEqual((book.base, book.settings, book.functions), (base, settings, functions))
        self.assertEqual(Book(base=3, settings=1, functions=functions), Book(3, 1, functions))

    def test_base(self):
        for base in [*wrong_values(), 0, 1, 4, -2, "2", (2,)]:
            self.assert_part("BASE", base, 1, ONE)

    def test_settings(self):
        for base in (2, 3):
            for settings in [*wrong_values(), 0, -1, base + 1, 100, "1"]:
                self.assert_part("SETTINGS", base, settings, ONE)

    def test_functions_are_tuples_of_tuples_of_forms(self):
        wrong = [*wrong_values(), G, [(G,)], ([G],), (G,), ((G,), [G]), ({0: G},), (iter((G,)),), ((G.tree,),),
                ((G, G.tree),), ((1,),), ((G, None),), ((Form,),), (((G,),),), small_book(), ((small_book(),),)]
        for functions in wrong:
            self.assert_part("FUNCTIONS", 2, 1, functions)
            self.assert_part("FUNCTIONS", 3, 3, functions)
        for value in wrong_values():
            self.assert_part("FUNCTIONS", 2, 1, (value,))
            self.assert_part("FUNCTIONS", 2, 1, ((G,), value))
            self.assert_part("FUNCTIONS", 2, 1, ((G, value),))
            self.assert_part("FUNCTIONS", 2, 1, ((G,), (G, value)))

    def test_how_many_functions_and_bodies(self):
        for functions, bodies in product(range(5), range(5)):
            made = ((G,) * bodies,) * functions
            if 1 <= functions <= 3 and 1 <= bodies <= 3:
                self.assertEqual(len(Book(2, 1, made)), functions)
            else:
                self.assert_part("FUNCTIONS", 2, 1, made)
        for at in range(3):
            for bodies in (0, 4):
                self.assert_part("FUNCTIONS", 2, 1, (*((G,),) * at, (G,) * bodies))

    def test_numbers_of_the_book(self):
        for n in range(3):
            for body in [Form.number(n), G + n, (G - S).then(n, G).by(0) * 0]:
                functions = ((G,), (body,))
                self.assertEqual(Book(3, 1, functions).functions, functions)
                if n < 2:
                    self.assertEqual(Book(2, 1, functions).functions, functions)
                else:
                    self.assert_part("FUNCTIONS", 2, 1, functions)

    def test_no_columns_and_no_kept(self):
        for leaf in [Form.column(0), Form.column(1), Form.kept(0), Form.kept(1)]:
            for body in [leaf, G + leaf, leaf.by(0), G.then(S, leaf * 0)]:
                self.assert_part("FUNCTIONS", 3, 1, ((G,), (body,)))
                self.assert_part("FUNCTIONS", 3, 1, ((G,), (G, G, body)))

    def test_only_earlier_functions_are_called(self):
        for function, called in product(range(3), range(3)):
            for body in [G.by(called), S.then(0, G.by(called) + 1)]:
                functions = [(G,), (G,), (G,)]
                functions[function] = (G, body)
                if called < function:
                    self.assertEqual(Book(2, 1, tuple(functions))[function], (G, body))
                else:
                    self.assert_part("FUNCTIONS", 2, 1, tuple(functions))
        self.assert_part("FUNCTIONS", 2, 1, ((G.by(1),), (G,)))
        self.assert_part("FUNCTIONS", 2, 1, ((G,), (G.by(0) + G.by(1),)))

    def test_the_first_wrong_part_is_told(self):
        wrong = [None, True, "2", (), [], {}, -1, 9, object()]
        for base, settings, functions in product(wrong, [1, *wrong], [ONE, *wrong]):
            self.assert_part("BASE", base, settings, functions)
        for settings, functions in product(wrong, [ONE, *wrong]):
            self.assert_part("SETTINGS", 2, settings, functions)
            self.assert_part("SETTINGS", 3, settings, functions)

    def test_large_bodies(self):
        body = G
        while len(body) < 12:
            body = body.by(0)
        book = Book(3, 1, ((G + 1,), (body,)))
        self.assertEqual(book.table((0, 0), 0, 1), [2, 0, 1])


class TestLooking(unittest.TestCase):
    def test_number_of_functions(self):
        for many in (1, 2, 3):
            self.assertEqual(len(Book(2, 1, ONE * many)), many)

    def test_bodies(self):
        book = small_book()
        self.assertEqual([book[0], book[1], book[2]], list(book.functions))
        for many in (1, 2, 3):
            book = Book(3, 1, ONE * many)
            for value in [*wrong_values(), many, 3, -many, "0", slice(0, 1), book, G]:
                with self.assertRaises(BadFunction):
                    book[value]

    def test_wordings(self):
        for shape in [(1,), (2,), (3,), (1, 2), (3, 1), (2, 3), (3, 2, 2), (1, 1, 1), (3, 3, 3)]:
            book = Book(2, 1, tuple((G,) * many for many in shape))
            self.assertEqual(book.wordings(), list(product(*[range(many) for many in shape])))

    def test_lists_are_new(self):
        book = small_book()
        for told in (book.wordings, lambda: book.table((0, 0, 0), 0, 2), lambda: book ^ Book(2, 1, ONE)):
            first = told()
            expected = list(first)
            first.append(None)
            first[0] = None
            self.assertEqual(told(), expected)

    def test_iterating(self):
        book = small_book()
        for work in [iter, list, tuple, sorted, lambda book: [one for one in book], lambda book: [*book]]:
            with self.assertRaises(TypeError):
                work(book)

    def test_example_of_the_interface(self):
        given = Form.given()
        book = Book(3, 2, ((given + 1, given * given), (given.by(0) + Form.setting(),)))
        told = [book.table((0, 0), 0, 0), book.table((1, 0), 0, 0), book.table((1, 0), 1, 1), book.put((0, 0), 0, 1),
                book.wordings(), len(book[1][0]), book[1][0].calls, 'setting' in book[1][0]]
        self.assertEqual(told, [[1, 2, 0], [0, 1, 1], [1, 2, 2], (1, 0), [(0, 0), (1, 0)], 4, (0,), True])


class TestPut(unittest.TestCase):
    def test_each_body_of_each_function(self):
        book = small_book()
        for wording in book.wordings():
            for function in range(3):
                for body in range(len(book[function])):
                    expected = list(wording)
                    expected[function] = body
                    self.assertEqual(book.put(wording, function, body), tuple(expected))
        self.assertEqual(book.put(wording=(0, 0, 0), function=1, body=2), (0, 2, 0))

    def test_errors(self):
        book = small_book()
        wordings = [*wrong_values(), (0, 0), (0, 0, 0, 0), [0, 0, 0], (2, 0, 0), (0, 3, 0), (0, 0, 1), (0, True, 0),
                    (0, 0, -1), (0, 0, None), (0, (0,), 0), "000", book]
        assert_errors_in_order(self, book.put, ((1, 2, 0), 1, 2), [
            (0, BadWording, wordings),
            (1, BadFunction, [*wrong_values(), 3, "1"]),
            (2, BadBody, [*wrong_values(), 3, "1"]),
        ])
        for function, body in [(0, 2), (1, 3), (2, 1), (0, -1), (2, True)]:
            with self.assertRaises(BadBody):
                book.put((0, 0, 0), function, body)


class TestTelling(unittest.TestCase):
    def assert_tells_as_told(self, book):
        """The book tells what point [3] says, for all wordings, settings, functions and numbers."""
        for wording in book.wordings():
            bodies = [book[function][body].tree for function, body in enumerate(wording)]
            for setting, function in product(range(book.settings), range(len(book))):
                expected = [told_as_told(book.base, bodies, setting, function, number) for number in range(book.base)]
                self.assertEqual(book.table(wording, setting, function), expected)
                self.assertEqual([book.tell(wording, setting, function, n) for n in range(book.base)], expected)

    def test_all_small_bodies(self):
        for base in (2, 3):
            leaves = [("given",), ("setting",), ("number", base - 1), ("number", 0)]
            for tree in trees_to(4, leaves, []):
                self.assert_tells_as_told(Book(base, base, ((Form(tree),),)))

    def test_small_bodies_with_calls(self):
        for base in (2, 3):
            for tree in trees_to(3, [("given",), ("setting",), ("number", 1)], [0, 1]):
                book = Book(base, 2, ((G * G + S, 1 - G), (G.by(0).then(G.by(0) + 1, S), G.same(S)), (Form(tree),)))
                self.assert_tells_as_told(book)

    def test_operations(self):
        for base in (2, 3):
            for one, other in product(range(base), range(base)):
                a, b = Form.number(one), Form.number(other)
                bodies = (a + b, a - b, a * b, a.same(b), a.then(b, 1), a.then(0, b))
                told = [Book(base, 1, ((body,),)).tell((0,), 0, 0, 0) for body in bodies]
                self.assertEqual(told, [(one + other) % base, (one - other) % base, one * other % base,
                                        int(one == other), other if one else 1, 0 if one else other])

    def test_another_meaning(self):
        book = small_book()
        self.assert_tells_as_told(book)
        self.assertEqual(book.table((0, 0, 0), 0, 1), [1, 2, 0])
        self.assertEqual(book.table((1, 0, 0), 0, 1), [0, 1, 1])
        self.assertEqual(book.table((0, 0, 0), 1, 1), [2, 0, 1])
        self.assertEqual(book.table((0, 1, 0), 0, 1), [2, 2, 2])
        self.assertEqual(book.table((0, 1, 0), 1, 1), [0, 1, 2])

    def test_argument_names(self):
        book = small_book()
        self.assertEqual(book.tell(wording=(0, 0, 0), setting=1, function=1, number=2), 1)
        self.assertEqual(book.table(wording=(0, 0, 0), setting=1, function=1), [2, 0, 1])

    def test_errors(self):
        book = Book(2, 1, ((G, S), (G.by(0),)))
        checks = [
            (0, BadWording, [*wrong_values(), (0,), (0, 1), (2, 0), (0, 0, 0), [0, 0], (0, True), "00"]),
            (1, BadSetting, [*wrong_values(), 1, 2, 3, "0"]),
            (2, BadFunction, [*wrong_values(), 2, 3, "0"]),
            (3, BadNumber, [*wrong_values(), 2, 3, "0"]),
        ]
        assert_errors_in_order(self, book.table, ((1, 0), 0, 1), checks[:3])
        assert_errors_in_order(self, book.tell, ((1, 0), 0, 1, 1), checks)

    def test_limits_of_settings_and_numbers(self):
        for base in (2, 3):
            for settings in range(1, base + 1):
                book = Book(base, settings, ((G + S,),))
                self.assertEqual(book.tell((0,), settings - 1, 0, base - 1), (settings + base - 2) % base)
                with self.assertRaises(BadSetting):
                    book.tell((0,), settings, 0, 0)
                with self.assertRaises(BadNumber):
                    book.tell((0,), 0, 0, base)


class TestBoth(unittest.TestCase):
    def test_unlike_functions(self):
        book = Book(3, 2, ((G, S), (G.by(0),), (G + 1,)))
        self.assertEqual(book ^ book, [])
        self.assertEqual(book ^ Book(3, 1, ((G, S), (G.by(0),), (1 + G,))), [2])
        self.assertEqual(book ^ Book(2, 1, ((G, S), (G.by(0),), (G + 1,))), [])
        self.assertEqual(book ^ Book(3, 2, ((S, G), (G.by(0), G), (G + 1,))), [0, 1])
        self.assertEqual(book ^ Book(3, 2, ((G, S),)), [1, 2])
        self.assertEqual(Book(3, 2, ((G,),)) ^ book, [0, 1, 2])
        self.assertEqual(Book(3, 2, ((G, S), (G.by(0),))) ^ book, [2])

    def test_unlike_functions_either_way(self):
        choices = [((G,),), ((S,),), ((G,), (S,)), ((S,), (S,)), ((G, S), (S,), (G,)), ((G,), (S,), (G, G))]
        for one, other in product(choices, choices):
            expected = [k for k in range(3) if one[k:k + 1] != other[k:k + 1]]
            self.assertEqual(Book(2, 1, one) ^ Book(3, 1, other), expected)

    def test_not_a_book(self):
        for value in [*wrong_values(), ONE, G, 0, (2, 1, ONE), Book]:
            with self.assertRaises(BadBook) as caught:
                small_book() ^ value
            self.assertIsNone(caught.exception.part)

    def test_equal(self):
        made = [(2, 1, ONE), (3, 1, ONE), (2, 2, ONE), (3, 2, ONE), (2, 1, ((S,),)), (2, 1, ((G, S),)),
                (2, 1, ((S, G),)), (2, 1, ((G,), (G,)))]
        for one, other in product(made, made):
            self.assertIs(Book(*one) == Book(*other), one == other)
            self.assertIs(Book(*one) != Book(*other), one != other)
        self.assertEqual(small_book(), small_book())

    def test_not_equal_to_other_classes(self):
        book = Book(2, 1, ONE)
        for other in [(2, 1, ONE), [2, 1, ONE], 1, None, "book", G, Plain(), Book]:
            self.assertIs(book == other, False)
            self.assertIs(other == book, False)
            self.assertIs(book != other, True)


if __name__ == "__main__":
    unittest.main()
