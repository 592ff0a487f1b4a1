import unittest
from itertools import product

from keptmeanings.books import Book
from keptmeanings.errors import BadAsk, BadDeed, BadHistory, BadPlan, BadState
from keptmeanings.plans import Plan
from keptmeanings.rows import after, deeds, first_state, states_of, told, wrong_asks
from tests.reading import Reading
from tests.samples import G, K, S, X, example_plan, few_plans, made_plans, mixed_plan, three_plan
from tests.support import Hostile, assert_errors_in_order, wrong_values

PLANS = few_plans() + made_plans(6, 40)
NO_PLANS = [*wrong_values(), example_plan().book, X, Plan, (example_plan(),)]


def some_states(reading):
    """States that come about, and a few dozen of all, many of which cannot come about."""
    states = reading.all_states()
    return reading.about(60) + states[::1 + len(states) // 40]


def not_states(plan):
    """Values near states of mixed_plan, or of another such plan with two functions, two columns and three things."""
    row, kept = (0, 1), (1, 0, 1)
    return [
        (0, 0), ((0, 0),), ((0, 0), None, None), [(0, 0), None], ((0,), None), ((3, 0), None), ((0, 1), None),
        ((0, False), None), ([0, 0], None), (None, None), ((0, 0), False), ((0, 0), 0), ((0, 0), ()), ((0, 0), row),
        ((0, 0), (row,)), ((0, 0), (row, None)), ((0, 0), [row, kept]), ((0, 0), (row, kept, kept)),
        ((0, 0), (list(row), kept)), ((0, 0), (row, list(kept))), ((0, 0), ((0,), kept)), ((0, 0), ((0, 2), kept)),
        ((0, 0), ((0, True), kept)), ((0, 0), ((0, 1, 0), kept)), ((0, 0), (row, (1, 0))), ((0, 0), (row, (1, 0, 1, 1))),
        ((0, 0), (row, (1, 0, 0))), ((0, 0), (row, (1, 2, 1))), ((0, 0), (row, (1, 0, True))),
        ((0, 0), (row, (True, 0, 1))), ((0, 0), (row, (1, -1, 1))), ((0, 0), (row, (1, None, 1))), ((0, 0), "no"),
        ((0, 0), (Hostile(), Hostile())), (Hostile(), None), ((0, Hostile()), None), ((0, 0), (row, Hostile())), plan,
    ]


class TestFirst(unittest.TestCase):
    def test_first_state(self):
        for plan in PLANS:
            self.assertEqual(first_state(plan), ((0,) * len(plan.book), None))

    def test_errors(self):
        assert_errors_in_order(self, first_state, (example_plan(),), [(0, BadPlan, NO_PLANS)])


class TestDeeds(unittest.TestCase):
    def test_in_order(self):
        for plan in PLANS:
            reading = Reading(plan)
            for state in some_states(reading):
                self.assertEqual(deeds(plan, state), reading.deeds(state))

    def test_written_out(self):
        book = Book(2, 2, ((G, S), (G,), (G, 1 - G, S)))
        plan = Plan(book, 1, (("kept", X), ("check", X)), free=(0, 2))
        always = [("put", 0, 0), ("put", 0, 1), ("put", 2, 0), ("put", 2, 1), ("put", 2, 2),
                  ("build", 0, 0), ("build", 0, 1), ("build", 1, 0), ("build", 1, 1)]
        writes = [("write", (0,), 0), ("write", (0,), 1), ("write", (1,), 0), ("write", (1,), 1)]
        self.assertEqual(deeds(plan, ((0, 0, 2), None)), always + writes)
        self.assertEqual(deeds(plan, ((0, 0, 2), ((0,), (1, 1)))), always)

    def test_lists_are_new(self):
        plan = example_plan()
        first = deeds(plan, ((0,), None))
        expected = list(first)
        first.clear()
        self.assertEqual(deeds(plan, ((0,), None)), expected)

    def test_errors(self):
        plan = mixed_plan()
        assert_errors_in_order(self, deeds, (plan, ((1, 0), ((0, 1), (1, 0, 1)))),
                               [(0, BadPlan, NO_PLANS), (1, BadState, [*wrong_values(), *not_states(plan)])])


class TestAfter(unittest.TestCase):
    def test_all_deeds(self):
        for plan in PLANS:
            reading = Reading(plan)
            for state in some_states(reading):
                for deed in reading.deeds(state):
                    self.assertEqual(after(plan, state, deed), reading.after(state, deed))

    def test_put(self):
        plan = mixed_plan()
        for there in (None, ((0, 1), (1, 1, 1))):
            self.assertEqual(after(plan, ((0, 0), there), ("put", 0, 2)), ((2, 0), there))
            self.assertEqual(after(plan, ((2, 0), there), ("put", 0, 2)), ((2, 0), there))

    def test_write(self):
        plan = Plan(Book(2, 2, ((G, 1 - G),)), 1, (("kept", X.by(0) + S), ("check", X.by(0)), ("again", K)))
        self.assertEqual(after(plan, ((0,), None), ("write", (1,), 0)), ((0,), ((1,), (1, 1, 1))))
        self.assertEqual(after(plan, ((0,), None), ("write", (1,), 1)), ((0,), ((1,), (0, 1, 0))))
        self.assertEqual(after(plan, ((0,), None), ("write", (0,), 0)), ((0,), None))
        self.assertEqual(after(plan, ((1,), None), ("write", (0,), 0)), ((1,), ((0,), (1, 1, 1))))

    def test_a_check_is_kept_as_1(self):
        plan = Plan(Book(3, 1, ((G,),)), 1, (("check", X),))
        self.assertEqual(after(plan, ((0,), None), ("write", (2,), 0)), ((0,), ((2,), (1,))))
        self.assertEqual(after(plan, ((0,), ((2,), (1,))), ("build", 0, 0)), ((0,), ((2,), (1,))))
        self.assertEqual(after(plan, ((0,), ((0,), (1,))), ("build", 0, 0)), ((0,), None))

    def test_build_takes_kept_numbers(self):
        plan = Plan(Book(3, 1, ((G,),)), 1, (("kept", X), ("again", K + 1), ("check", K)))
        self.assertEqual(after(plan, ((0,), ((1,), (2, 2, 1))), ("build", 1, 0)), ((0,), ((1,), (2, 0, 1))))
        self.assertEqual(after(plan, ((0,), ((1,), (0, 2, 1))), ("build", 2, 0)), ((0,), None))
        self.assertEqual(after(plan, ((0,), ((0,), (2, 2, 1))), ("build", 2, 0)), ((0,), ((0,), (2, 2, 1))))
        self.assertEqual(after(plan, ((0,), ((1,), (2, 2, 1))), ("build", 0, 0)), ((0,), ((1,), (1, 2, 1))))
        self.assertEqual(after(plan, ((0,), None), ("build", 1, 0)), ((0,), None))

    def test_errors(self):
        plan = mixed_plan()
        free = ((1, 0), None)
        there = ((1, 0), ((0, 1), (1, 0, 1)))
        wrong = [*wrong_values(), ("put", 1, 0), ("put", 0, 3), ("put", 0), ("put", 0, 0, 0), ["put", 0, 1], ("put", 0, True),
                 ("put", False, 0), ("put", 0, -1), ("put", None, 0), ("put", 2, 0), ("Put", 0, 0), (b"put", 0, 0),
                 ("build", 0, 0), ("build", 3, 1), ("build", True, 1), ("build", 0, True), ("build", 0, 2), ("build", 0),
                 ("build", -1, 1), ("write", (0, 1), 0), ("write", (0, 1), True), ("write", [0, 1], 1), ("write", (0,), 1),
                 ("write", (0, 2), 1), ("write", (0, True), 1), ("write", 0, 1), ("write", None, 1), ("write", (0, 1)),
                 ("take", 0, 1), ("shut", 0, 1), (0, 0, 0), (None, 0, 1), (Hostile(), 0, 1), ("put", Hostile(), 0),
                 ("put", 0, Hostile()), ("build", Hostile(), 1), ("write", Hostile(), 1), ("write", (0, 1), Hostile())]
        for state, more in [(free, []), (there, [("write", (0, 1), 1), ("write", (1, 1), 1)])]:
            assert_errors_in_order(self, after, (plan, state, ("put", 0, 2)), [
                (0, BadPlan, NO_PLANS),
                (1, BadState, [*wrong_values(), *not_states(plan)]),
                (2, BadDeed, wrong + more),
            ])

    def test_no_others_are_deeds(self):
        numbers = [-1, 0, 1, 2, 3, True, None, (0,), (1,), (2,), (0, 0), (False,)]
        for plan in few_plans()[:4]:
            for state in (((0,) * len(plan.book), None), Reading(plan).all_states()[-1]):
                expected = deeds(plan, state)
                for deed in product(("put", "build", "write", "take"), numbers, numbers):
                    if repr(deed) in [repr(one) for one in expected]:
                        after(plan, state, deed)
                    else:
                        with self.assertRaises(BadDeed):
                            after(plan, state, deed)


class TestHistories(unittest.TestCase):
    def test_states_of(self):
        for plan in PLANS:
            reading = Reading(plan)
            states, history = [reading.first], []
            for at in range(30):
                choices = reading.deeds(states[-1])
                history.append(choices[(at * at * 7 + at) % len(choices)])
                states.append(reading.after(states[-1], history[-1]))
            for given in (history, tuple(history)):
                self.assertEqual(states_of(plan, given), states)
            self.assertEqual(states_of(plan, history[:3]), states[:4])
            self.assertEqual((states_of(plan, []), states_of(plan, ())), ([reading.first], [reading.first]))

    def test_lists_are_neither_modified_nor_kept(self):
        plan = example_plan()
        history = [("write", (1,), 0), ("put", 0, 1)]
        states = states_of(plan, history)
        self.assertEqual(history, [("write", (1,), 0), ("put", 0, 1)])
        states.clear()
        self.assertEqual(len(states_of(plan, history)), 3)

    def test_a_hundred_deeds(self):
        plan = example_plan()
        deed = ("put", 0, 1)
        for kind in (list, tuple):
            for many in (99, 100):
                self.assertEqual(len(states_of(plan, kind([deed] * many))), many + 1)
            for many in (101, 102, 1000):
                self.assert_index(None, plan, kind([deed] * many))
            self.assert_index(None, plan, kind([None] * 101))
            self.assert_index(99, plan, kind([deed] * 99 + [None]))
            self.assert_index(0, plan, kind([None] * 100))

    def assert_index(self, index, plan, history):
        with self.assertRaises(BadHistory) as caught:
            states_of(plan, history)
        self.assertEqual(caught.exception.index, index)

    def test_no_list(self):
        values = [value for value in wrong_values() if not isinstance(value, (list, tuple))]
        for value in [*values, {0: ("put", 0, 1)}, iter([("put", 0, 1)]), "put", ("put", 0, 1).__iter__(), X]:
            self.assert_index(None, example_plan(), value)

    def test_the_first_wrong_deed(self):
        plan = example_plan()
        write, put, build = ("write", (1,), 0), ("put", 0, 1), ("build", 2, 0)
        self.assert_index(1, plan, [write, write])
        self.assert_index(2, plan, (write, put, write))
        self.assert_index(5, plan, [write, put, build, write, write, None])
        self.assertEqual(states_of(plan, [write, put, build, ("write", (0,), 0)])[-1], ((1,), ((0,), (1, 1, 1))))
        self.assert_index(0, plan, ("put", 0, 1))
        for value in [*wrong_values(), ("put", 0, 2), ("put", 0, True), ["put", 0, 1], ("build", 0, 1)]:
            self.assert_index(0, plan, [value])
            self.assert_index(2, plan, (write, put, value))
            self.assert_index(1, plan, [put, value, value])

    def test_errors(self):
        assert_errors_in_order(self, states_of, (example_plan(), []), [
            (0, BadPlan, NO_PLANS), (1, BadHistory, [None, 0, "", {}, [None], [("put", 0, 2)], [("put", 0, 1)] * 101])])


class TestAsked(unittest.TestCase):
    def test_told(self):
        for plan in PLANS:
            reading = Reading(plan)
            for state in some_states(reading):
                for ask in reading.asks():
                    pair = told(plan, state, ask)
                    self.assertEqual(repr(pair), repr(reading.told(state, ask)))

    def test_wrong_asks(self):
        for plan in PLANS:
            reading = Reading(plan)
            for state in some_states(reading):
                words = wrong_asks(plan, state)
                self.assertEqual(list(words.items()), reading.wrong(state))
                self.assertEqual(list(words), sorted(words))

    def test_modes(self):
        book = Book(3, 1, ((G,),))
        for mode, kept, plain_number in product(("kept", "again", "check"), range(3), range(3)):
            if mode == "check" and kept != 1:
                continue
            plan = Plan(book, 1, ((mode, X),))
            state = ((0,), ((plain_number,), (kept,)))
            expected = []
            for number in range(3):
                by_thing = {"kept": number == kept, "again": number == kept == plain_number,
                            "check": number == plain_number != 0}[mode]
                expected.append((number == plain_number, by_thing))
            self.assertEqual([told(plan, state, (0, number, 0)) for number in range(3)], expected)

    def test_no_row(self):
        for plan in PLANS:
            for wording in plan.book.wordings():
                self.assertEqual(wrong_asks(plan, (wording, None)), {})
                for ask in Reading(plan).asks():
                    self.assertEqual(told(plan, (wording, None), ask), (False, False))

    def test_both_words(self):
        plan = Plan(Book(2, 2, ((G,),)), 1, (("kept", X + S), ("again", X + S), ("check", X + S)))
        state = ((0,), ((1,), (1, 0, 1)))
        self.assertEqual(list(wrong_asks(plan, state).items()),
                         [((0, 0, 1), "lost"), ((0, 1, 1), "extra"), ((1, 1, 0), "lost"), ((2, 0, 1), "lost")])

    def test_by_plain_numbers_of_the_asker(self):
        plan = Plan(Book(2, 2, ((G,),)), 1, (("kept", X + S), ("again", K)), writers=(0,), askers=(1,))
        state = after(plan, first_state(plan), ("write", (0,), 0))
        self.assertEqual(wrong_asks(plan, state), {(0, 0, 1): "extra", (0, 1, 1): "lost", (1, 1, 1): "lost"})

    def test_dicts_are_new(self):
        plan = Plan(Book(2, 1, ((G,),)), 1, (("kept", X),))
        words = wrong_asks(plan, ((0,), ((0,), (1,))))
        words.clear()
        self.assertEqual(wrong_asks(plan, ((0,), ((0,), (1,)))), {(0, 0, 0): "lost", (0, 1, 0): "extra"})

    def test_errors(self):
        plan = three_plan()
        states = [*wrong_values(), ((0,), None), ((0, 2), None), ((0, 0), ((0,), (0, 0))), ((0, 0), ((0,), (0, 0, 3))),
                  ((0, 0), ((True,), (0, 0, 0))), ((0, 0), False)]
        asks = [*wrong_values(), (0, 0), (0, 0, 1, 1), [0, 0, 1], (3, 0, 1), (0, 3, 1), (0, 0, 0), (0, 0, 2), (0, 0, True),
                (False, 0, 1), (0, True, 1), (-1, 0, 1), (0, -1, 1), (0, 0, -1), (None, 0, 1), (0, "0", 1), ("kept", 0, 1),
                (Hostile(), 0, 1), (0, Hostile(), 1), (0, 0, Hostile())]
        checks = [(0, BadPlan, NO_PLANS), (1, BadState, states), (2, BadAsk, asks)]
        for state in (((0, 1), None), ((0, 1), ((2,), (0, 1, 2)))):
            assert_errors_in_order(self, told, (plan, state, (2, 2, 1)), checks)
            assert_errors_in_order(self, wrong_asks, (plan, state), checks[:2])
        for states_too in not_states(mixed_plan()):
            with self.assertRaises(BadState):
                wrong_asks(mixed_plan(), states_too)


class TestConventions(unittest.TestCase):
    def test_argument_names(self):
        plan = example_plan()
        state = first_state(plan=plan)
        self.assertEqual(deeds(plan=plan, state=state), deeds(plan, state))
        self.assertEqual(after(plan=plan, state=state, deed=("put", 0, 1)), ((1,), None))
        self.assertEqual(states_of(plan=plan, history=[]), [state])
        self.assertEqual(told(plan=plan, state=state, ask=(0, 0, 0)), (False, False))
        self.assertEqual(wrong_asks(plan=plan, state=state), {})

    def test_example_of_the_interface(self):
        plan = example_plan()
        state = after(plan, first_state(plan), ('write', (1,), 0))
        later = after(plan, state, ('put', 0, 1))
        told_here = [state, wrong_asks(plan, later), after(plan, later, ('build', 0, 0)),
                     after(plan, later, ('build', 2, 0)), told(plan, later, (1, 0, 0))]
        expected = [((0,), ((1,), (1, 1, 1))),
                    {(0, 0, 0): 'lost', (0, 1, 0): 'extra', (1, 0, 0): 'lost', (2, 0, 0): 'lost'},
                    ((1,), ((1,), (0, 1, 1))), ((1,), None), (True, False)]
        self.assertEqual(told_here, expected)


if __name__ == "__main__":
    unittest.main()
