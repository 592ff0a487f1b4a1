import unittest
from random import Random

from keptmeanings.books import Book
from keptmeanings.errors import (BadAsk, BadBody, BadFree, BadFunction, BadPlan, BadRow, BadSetting, BadThing,
                                 MeaningError,
                                 NoRow, NothingDone, Refused)
from keptmeanings.forms import Form
from keptmeanings.plans import Plan
from keptmeanings.tables import Table
from tests.reading import Reading
from tests.samples import G, K, S, X, Y, example_plan, few_plans, made_plans, mixed_plan, three_plan
from tests.support import Agreeing, Hostile, assert_errors_in_order, assert_no_other_equal, wrong_values


class Stop(Exception):
    """An error of whoever attempts something."""


class Model:
    """Point [13], read a second time: a table is nothing but its journal, which is gone through anew whenever asked."""

    def __init__(self, plan, journal=()):
        self.plan, self.reading, self.journal = plan, Reading(plan), list(journal)

    def now(self):
        """The wording, the session, the rows and the next number."""
        wording, session, rows, coming = list(self.reading.first[0]), self.plan.writers[0], {}, 0
        for word, *rest in self.journal:
            if word == "add":
                rows[coming] = self.written(wording, session, rest[0])
                coming += 1
            elif word == "replace":
                rows[rest[0]] = self.written(wording, session, rest[1])
            elif word == "take":
                del rows[rest[0]]
            elif word == "put":
                wording[rest[0]] = rest[1]
            elif word == "session":
                session = rest[0]
            else:
                rows = self.built(wording, session, rows, rest[0])
        return tuple(wording), session, rows, coming

    def written(self, wording, session, row):
        return self.reading.after((tuple(wording), None), ("write", row, session))[1]

    def built(self, wording, session, rows, thing):
        after = {n: self.reading.after((tuple(wording), held), ("build", thing, session))[1] for n,
                 held in rows.items()}
        return {n: held for n, held in after.items() if held is not None}

    def do(self, word, *rest):
        """What a deed tells; it is in the journal then, unless it is refused."""
        wording, session, rows, coming = self.now()
        deed = (word, *rest)
        if word == "add":
            self.check_written(wording, session, rest[0])
            told = coming
        elif word == "replace":
            if rest[0] not in rows:
                raise NoRow
            self.check_written(wording, session, rest[1])
            told = None
        elif word == "take":
            if rest[0] not in rows:
                raise NoRow
            told = rows[rest[0]]
        elif word == "put":
            if rest[0] not in self.plan.free:
                raise BadFree
            told = wording[rest[0]]
        elif word == "session":
            told = session
        else:
            if session not in self.plan.writers:
                raise BadSetting
            after = self.built(wording, session, rows, rest[0])
            told = [n for n in sorted(rows) if n not in after or after[n][1] != rows[n][1]]
        self.journal.append(deed)
        return told

    def check_written(self, wording, session, row):
        if session not in self.plan.writers:
            raise BadSetting
        if self.written(wording, session, row) is None:
            raise Refused

    def seek(self, thing, number, plainly):
        wording, session, rows, _ = self.now()
        return [n for n in sorted(rows)
                if self.reading.told((wording, rows[n]), (thing, number, session))[0 if plainly else 1]]


def do(table, word, *rest):
    """Do a deed of the journal with a table."""
    if word == "replace":
        table[rest[0]] = rest[1]
        return None
    return {"add": table.add, "take": table.take, "put": table.put, "build": table.build,
            "session": table.use}[word](*rest)


def outcome(function, *arguments):
    """What a function returns, or the class of the error that it raises."""
    try:
        return ("told", function(*arguments))
    except MeaningError as error:
        return ("refused", error.__class__)


def some_deed(random, plan, coming):
    """A deed as in the journal, which may be refused."""
    function = random.randrange(len(plan.book))
    row, number = random.choice(plan.rows()), random.randint(0, coming + 1)
    return random.choice([
        ("add", row), ("add", row), ("replace", number, row), ("take", number),
        ("build", random.randrange(len(plan))),
        ("build", random.randrange(len(plan))), ("put", function, random.randrange(len(plan.book[function]))),
        ("put", function, random.randrange(len(plan.book[function]))),
        ("session", random.randrange(plan.book.settings))])


def lively_plans():
    """Plans in which rows pass and fail, numbers change, and sessions are writers, askers and neither."""
    book = Book(2, 2, ((G, 1 - G, S), (G.by(0), G + S)))
    three = Book(3, 3, ((G, G + 1, G * S), (G.by(0), G - S)))
    return [
        Plan(book, 1, (("kept", X.by(1)), ("check", X.by(0)), ("again", K + X))),
        Plan(book, 2, (("check", X.by(0) + Y), ("kept", Y.by(1) * X))),
        Plan(book, 1, (("again", X.by(1)), ("kept", X.by(0)), ("check", Form.kept(1))), free=(0,), writers=(1,),
             askers=(0,)),
        Plan(three, 1, (("kept", X.by(1)), ("kept", K.by(0) + 1), ("check", X.by(0) + K)), writers=(0, 2),
             askers=(1,)),
        Plan(three, 2, (("check", (X + Y).by(1)), ("kept", X.by(0)), ("again", Y.by(1))), free=(0, 1)),
        Plan(three, 1, (("kept", X.by(0)), ("again", X.by(1)), ("check", Form.kept(0).by(1))), writers=(1,)),
    ]


class TestAgainstJournal(unittest.TestCase):
    def assert_same(self, table, model):
        wording, session, rows, _ = model.now()
        self.assertEqual((table.wording, table.session, table.numbers), (wording, session, sorted(rows)))
        self.assertEqual((len(table), table.journal), (len(rows), model.journal))
        self.assertEqual(table.plan, model.plan)
        for number in range(-1, len(model.journal) + 2):
            self.assertIs(number in table, number in rows)
            if number in rows:
                self.assertEqual(table[number], rows[number])
            else:
                with self.assertRaises(NoRow):
                    table[number]

    def assert_sought(self, table, model):
        for thing in range(len(model.plan)):
            for number in range(model.plan.book.base):
                self.assertEqual(table.seek(thing, number), model.seek(thing, number, False))
                self.assertEqual(table.seek(thing, number, plainly=False), model.seek(thing, number, False))
                self.assertEqual(table.seek(thing, number, plainly=True), model.seek(thing, number, True))

    def test_deeds_of_all_kinds(self):
        seen = {}
        for at, plan in enumerate(lively_plans() * 8 + few_plans() + made_plans(71, 20)):
            random, table, model = Random(at), Table(plan), Model(plan)
            for _ in range(50):
                deed = some_deed(random, plan, model.now()[3])
                before = list(model.journal)
                told = outcome(do, table, *deed)
                self.assertEqual(told, outcome(model.do, *deed))
                if told[0] == "refused":
                    self.assertEqual(model.journal, before)
                self.assert_same(table, model)
                key = (deed[0], told[1] if told[0] == "refused" else bool(told[1]) if deed[0] == "build" else True)
                seen[key] = seen.get(key, 0) + 1
            self.assert_sought(table, model)
        expected = [("add", True), ("add", Refused), ("add", BadSetting), ("replace", True), ("replace", NoRow),
                    ("replace", Refused), ("replace", BadSetting), ("take", True), ("take", NoRow), ("put", True),
                    ("put", BadFree),
                    ("build", True), ("build", False), ("build", BadSetting), ("session", True)]
        self.assertTrue(all(seen.get(key, 0) > 8 for key in expected), seen)
        self.assertEqual(set(seen), set(expected))

    def test_undoing(self):
        for at, plan in enumerate(lively_plans() + few_plans()):
            random, table, model = Random(at), Table(plan), Model(plan)
            for _ in range(40):
                if random.random() < 0.35:
                    if model.journal:
                        self.assertEqual(table.undo(), model.journal.pop())
                    else:
                        with self.assertRaises(NothingDone):
                            table.undo()
                else:
                    deed = some_deed(random, plan, model.now()[3])
                    self.assertEqual(outcome(do, table, *deed), outcome(model.do, *deed))
                self.assert_same(table, model)
            self.assert_sought(table, model)
            while model.journal:
                self.assertEqual(table.undo(), model.journal.pop())
                self.assert_same(table, model)
            for _ in range(2):
                with self.assertRaises(NothingDone):
                    table.undo()
                self.assert_same(table, model)

    def test_branches(self):
        for at, plan in enumerate(lively_plans()):
            random, pairs = Random(at), [(Table(plan), Model(plan))]
            for step in range(60):
                table, model = random.choice(pairs)
                if step % 12 == 5:
                    pairs.append((table.branch(), Model(plan, model.journal)))
                elif random.random() < 0.25:
                    self.assertEqual(outcome(table.undo),
                                     ("told", model.journal.pop()) if model.journal else ("refused", NothingDone))
                else:
                    deed = some_deed(random, plan, model.now()[3])
                    self.assertEqual(outcome(do, table, *deed), outcome(model.do, *deed))
                for pair in pairs:
                    self.assert_same(*pair)
            for table, model in pairs:
                while model.journal:
                    self.assertEqual(table.undo(), model.journal.pop())
                self.assert_same(table, model)

    def test_attempts(self):
        ends = {}
        for at, plan in enumerate(lively_plans() * 12):
            self.run_attempts(Random(at), Table(plan), Model(plan), 0, ends)
        self.assertTrue(all(ends.get(key, 0) > 10 for key in [(1, True), (1, False), (2, True), (2, False)]), ends)

    def run_attempts(self, random, table, model, depth, ends):
        """Do something with a table; attempts within one another end well, or by an error of some kind."""
        floor = len(model.journal)
        for _ in range(random.randint(4, 9)):
            choice = random.random()
            if choice < 0.25:
                self.assertEqual(outcome(table.undo),
                                 ("told", model.journal.pop()) if len(model.journal) > floor else ("refused",
                                                                                                   NothingDone))
            elif choice < 0.45 and depth < 3:
                self.run_attempt(random, table, model, depth + 1, ends)
            else:
                deed = some_deed(random, table.plan, model.now()[3])
                self.assertEqual(outcome(do, table, *deed), outcome(model.do, *deed))
            self.assert_same(table, model)

    def run_attempt(self, random, table, model, depth, ends):
        before, error = list(model.journal), random.choice([None, Stop("told"), Refused("told"),
                                                            KeyboardInterrupt("told")])

        def work(given):
            self.assertIs(given, table)
            self.run_attempts(random, table, model, depth, ends)
            if error is not None:
                raise error
            return ("done", depth)

        if error is None:
            self.assertEqual(table.attempt(work), ("done", depth))
        else:
            with self.assertRaises(error.__class__) as caught:
                table.attempt(work)
            self.assertIs(caught.exception, error)
            model.journal[:] = before
        ends[(depth, error is None)] = ends.get((depth, error is None), 0) + 1


class TestDeeds(unittest.TestCase):
    def test_at_first(self):
        for plan in lively_plans() + few_plans():
            table = Table(plan)
            self.assertEqual((table.plan, table.wording, table.numbers), (plan, (0,) * len(plan.book), []))
            self.assertEqual((table.journal, table.session, len(table)), ([], plan.writers[0], 0))

    def test_what_is_told(self):
        plan = Plan(Book(2, 2, ((G, 1 - G, S),)), 1, (("kept", X.by(0) + S), ("check", X)))
        table = Table(plan)
        self.assertEqual([table.add((1,)), table.add((1,))], [0, 1])
        self.assertEqual([table.use(1), table.use(0), table.use(0)], [0, 1, 0])
        self.assertEqual([table.put(0, 2), table.put(0, 1), table.put(0, 1)], [0, 2, 1])
        self.assertEqual((table.build(0), table.build(0), table.build(1)), ([0, 1], [], []))
        self.assertEqual((table.take(0), table.add((1,))), (((1,), (0, 1)), 2))
        table[1] = (1,)
        self.assertEqual((table.numbers, table[1], len(table)), ([1, 2], ((1,), (0, 1)), 2))
        self.assertEqual(table.journal, [
            ("add", (1,)), ("add", (1,)), ("session", 1), ("session", 0), ("session", 0), ("put", 0, 2),
            ("put", 0, 1),
            ("put", 0, 1), ("build", 0), ("build", 0), ("build", 1), ("take", 0), ("add", (1,)),
            ("replace", 1, (1,))])

    def test_numbers_are_not_given_again(self):
        table = Table(example_plan())
        self.assertEqual([table.add((1,)), table.add((1,)), table.add((1,))], [0, 1, 2])
        table.take(2)
        self.assertEqual((table.add((1,)), table.numbers), (3, [0, 1, 3]))
        # A row that is refused does not come, so it has no number.
        with self.assertRaises(Refused):
            table.add((0,))
        self.assertEqual(table.add((1,)), 4)
        # After undoing, the numbers are given as if nothing had been.
        self.assertEqual((table.undo(), table.undo()), (("add", (1,)), ("add", (1,))))
        self.assertEqual((table.numbers, table.add((1,))), ([0, 1], 3))

    def test_rows_that_are_gone(self):
        table = Table(Plan(Book(2, 1, ((G, 1 - G),)), 1, (("kept", X), ("check", X.by(0)))))
        table.add((1,))
        table.put(0, 1)
        table.add((0,))
        self.assertEqual((table.build(1), table.numbers), ([0], [1]))
        for function in (lambda: table[0], lambda: table.take(0), lambda: table.__setitem__(0, (0,))):
            with self.assertRaises(NoRow):
                function()
        self.assertEqual((table.undo(), table.numbers, table[0]), (("build", 1), [0, 1], ((1,), (1, 1))))

    def test_build_is_kept_numbers_alone(self):
        # A row is told by build if its kept number of this thing changes, or if it is gone.
        table = Table(Plan(Book(3, 1, ((G, G + 1),)), 1,
                           (("kept", X.by(0)), ("kept", K), ("again", K + Form.kept(1)))))
        for number in range(3):
            table.add((number,))
        table.put(0, 1)
        self.assertEqual((table.build(1), table.build(0)), ([], [0, 1, 2]))
        self.assertEqual((table.build(2), table.build(1), table.build(1)), ([0, 1, 2], [0, 1, 2], []))
        self.assertEqual([table[number] for number in range(3)],
                         [((0,), (1, 1, 1)), ((1,), (2, 2, 0)), ((2,), (0, 0, 2))])

    def test_replacing(self):
        table = Table(example_plan())
        table.add((1,))
        table.put(0, 1)
        with self.assertRaises(Refused):
            table[0] = (1,)
        self.assertEqual((table[0], table.journal), (((1,), (1, 1, 1)), [("add", (1,)), ("put", 0, 1)]))
        table[0] = (0,)
        self.assertEqual((table[0], table.numbers), (((0,), (1, 1, 1)), [0]))
        self.assertEqual((table.undo(), table[0]), (("replace", 0, (0,)), ((1,), (1, 1, 1))))

    def test_sessions(self):
        book = Book(3, 3, ((G, G + S),))
        table = Table(Plan(book, 1, (("kept", X + S), ("check", X.by(0) + 1)), writers=(1, 2), askers=(0,)))
        self.assertEqual(table.session, 1)
        table.add((0,))
        self.assertEqual(table.use(2), 1)
        table.add((0,))
        self.assertEqual([table[0], table[1]], [((0,), (1, 1)), ((0,), (2, 1))])
        # It is asked with the setting of the session, be it an asker or not.
        told = {}
        for setting in range(3):
            table.use(setting)
            told[setting] = [[table.seek(0, number, plainly=plainly) for number in range(3)]
                             for plainly in (False, True)]
        by_thing = [[], [0], [1]]
        self.assertEqual(told, {0: [by_thing, [[0, 1], [], []]], 1: [by_thing, [[], [0, 1], []]],
                                2: [by_thing, [[], [], [0, 1]]]})
        table.use(0)
        for function in (lambda: table.add((0,)), lambda: table.__setitem__(0, (0,)), lambda: table.build(0)):
            with self.assertRaises(BadSetting):
                function()
        self.assertEqual((table.put(0, 1), table.take(0)), (0, ((0,), (1, 1))))

    def test_modes(self):
        plan = Plan(Book(3, 1, ((G, G * 0),)), 1, (("kept", X.by(0)), ("again", X.by(0)), ("check", X.by(0) + 1)))
        table = Table(plan)
        for number in (1, 0, 1):
            table.add((number,))
        self.assertEqual([table.seek(0, 1), table.seek(1, 1), table.seek(2, 2), table.seek(2, 0)],
                         [[0, 2], [0, 2], [0, 2], []])
        table.put(0, 1)
        self.assertEqual([table.seek(0, 1), table.seek(1, 1), table.seek(2, 1)], [[0, 2], [], [0, 1, 2]])
        self.assertEqual([table.seek(thing, 0, plainly=True) for thing in range(3)], [[0, 1, 2], [0, 1, 2], []])
        self.assertEqual([table.seek(0, 0), table.seek(1, 0)], [[1], [1]])
        barred = Plan(Book(2, 1, ((G, 1 - G),)), 1, (("check", X.by(0)),))
        table = Table(barred)
        table.add((1,))
        table.put(0, 1)
        self.assertEqual((table.seek(0, 0), table.seek(0, 0, plainly=True), table.seek(0, 1)), ([], [0], []))

    def test_more_than_a_hundred_deeds(self):
        plan = example_plan()
        table, model = Table(plan), Model(plan)
        for at in range(150):
            deed = ("add", (1,)) if at % 3 else ("put", 0, 0)
            self.assertEqual(do(table, *deed), model.do(*deed))
        self.assertEqual((len(table.journal), len(table), table.numbers), (150, 100, list(range(100))))
        for _ in range(150):
            self.assertEqual(table.undo(), model.journal.pop())
        self.assertEqual((table.journal, table.numbers, table.add((1,))), ([], [], 0))
        for _ in range(3000):
            table.add((1,))
        self.assertEqual(table.add((1,)), 3001)

    def test_undo_to_the_start_and_once_more(self):
        table = Table(mixed_plan())
        table.use(0)
        self.assertEqual((table.undo(), table.session), (("session", 0), 1))
        for _ in range(2):
            with self.assertRaises(NothingDone):
                table.undo()
        self.assertEqual(table.use(1), 1)
        self.assertEqual(table.journal, [("session", 1)])

    def test_lists_are_new(self):
        table = Table(example_plan())
        table.add((1,))
        table.add((1,))
        for told in (lambda: table.numbers, lambda: table.journal, lambda: table.seek(0, 1), lambda: table.build(0)):
            expected = list(told())
            told().clear()
            self.assertEqual(table.numbers, [0, 1])
            if expected:
                told().append(None)
                self.assertEqual(told(), expected)

    def test_example_of_the_interface(self):
        plan = Plan(Book(2, 1, ((Form.given(), 1 - Form.given()),)), 1, (('kept', Form.column(0).by(0)),))
        table = Table(plan)
        told = [table.add((1,)), table.add((0,)), table.put(0, 1), table.seek(0, 1), table.seek(0, 1, plainly=True)]
        self.assertEqual([told, table.build(0), table[0], table.undo(), table.numbers],
                         [[0, 1, 0, [0], [1]], [0, 1], ((1,), (0,)), ('build', 0), [0, 1]])

    def test_argument_names(self):
        table = Table(plan=example_plan())
        self.assertEqual((table.add(row=(1,)), table.use(setting=0), table.put(function=0, body=0)), (0, 0, 0))
        self.assertEqual((table.build(thing=0), table.seek(thing=0, number=1, plainly=True)), ([], [0]))
        self.assertEqual((table.attempt(work=len), table.take(number=0)), (1, ((1,), (1, 1, 1))))


class TestContains(unittest.TestCase):
    def test_values_of_any_kind(self):
        table = Table(example_plan())
        for _ in range(3):
            table.add((1,))
        table.take(1)
        self.assertEqual([number in table for number in (-1, 0, 1, 2, 3)], [False, True, False, True, False])
        for value in [*wrong_values(), True, False, "0", (0,), [0], b"0", Hostile(), Agreeing(), table, table.plan,
                      (1,), ((1,), 0)]:
            if value.__class__ is not int:
                self.assertIs(value in table, False)
            self.assertIs(value not in table, True)

    def test_empty(self):
        table = Table(example_plan())
        self.assertIs(0 in table, False)
        self.assertEqual(len(table), 0)

    def test_not_iterated_over(self):
        table = Table(example_plan())
        table.add((1,))
        for function in (iter, list, tuple, dict, set, sorted, enumerate, lambda one: [*one],
                         lambda one: dict.fromkeys(one)):
            with self.assertRaises(TypeError):
                function(table)
        with self.assertRaises(TypeError):
            for _ in table:
                pass


class TestBranch(unittest.TestCase):
    def test_goes_its_own_way(self):
        table = Table(example_plan())
        table.add((1,))
        branch = table.branch()
        self.assertIsNot(branch, table)
        self.assertIs(branch.__class__, Table)
        branch.put(0, 1)
        branch.add((0,))
        self.assertEqual((table.wording, table.numbers, table.journal), ((0,), [0], [("add", (1,))]))
        table.take(0)
        self.assertEqual((branch.numbers, branch[0]), ([0, 1], ((1,), (1, 1, 1))))
        self.assertEqual(table.add((1,)), 1)
        self.assertEqual([branch.undo() for _ in range(3)], [("add", (0,)), ("put", 0, 1), ("add", (1,))])
        self.assertEqual((branch.numbers, branch.wording, table.numbers), ([], (0,), [1]))

    def test_in_an_attempt(self):
        table, made = Table(example_plan()), []
        table.add((1,))

        def work(given):
            given.put(0, 1)
            made.append(given.branch())
            # A branch is in no attempt, so all of it can be undone.
            branch = given.branch()
            self.assertEqual((branch.undo(), branch.undo()), (("put", 0, 1), ("add", (1,))))
            with self.assertRaises(NothingDone):
                branch.undo()
            self.assertEqual(given.undo(), ("put", 0, 1))
            given.put(0, 1)
            with self.assertRaises(Stop):
                made[0].attempt(fail)
            raise Stop

        def fail(given):
            given.add((0,))
            raise Stop

        with self.assertRaises(Stop):
            table.attempt(work)
        self.assertEqual((table.wording, table.journal), ((0,), [("add", (1,))]))
        # What was done on the branch stays; only what was done in its own attempt has been taken back.
        self.assertEqual((made[0].wording, made[0].journal), ((1,), [("add", (1,)), ("put", 0, 1)]))
        self.assertEqual([made[0].undo(), made[0].undo()], [("put", 0, 1), ("add", (1,))])


class TestAttempt(unittest.TestCase):
    def test_what_work_returns(self):
        table = Table(example_plan())
        value = [1]
        self.assertIs(table.attempt(lambda given: value), value)
        self.assertIsNone(table.attempt(lambda given: None))
        self.assertEqual(table.attempt(lambda given: given.add((1,))), 0)
        self.assertEqual((table.journal, table.undo()), ([("add", (1,))], ("add", (1,))))

    def test_everything_is_taken_back(self):
        table = Table(Plan(Book(2, 2, ((G, 1 - G),)), 1, (("kept", X.by(0)), ("check", X.by(0) + S))))
        for row in ((1,), (1,), (1,)):
            table.add(row)
        before = (table.wording, table.session, table.numbers, table.journal,
                  [table[number] for number in table.numbers])

        def work(given):
            given.put(0, 1)
            given[0] = (0,)
            given.take(1)
            given.add((0,))
            given.build(0)
            given.build(1)
            given.use(1)
            given.undo()
            given.use(1)
            self.assertEqual(given.numbers, [0, 3])
            given.take(9)

        with self.assertRaises(NoRow):
            table.attempt(work)
        after = (table.wording, table.session, table.numbers, table.journal,
                 [table[number] for number in table.numbers])
        self.assertEqual(after, before)
        self.assertEqual(table.add((1,)), 3)
        self.assertEqual([table.undo()[0] for _ in range(4)], ["add"] * 4)

    def test_undoing_in_an_attempt(self):
        table = Table(example_plan())
        table.add((1,))

        def inner(given):
            with self.assertRaises(NothingDone):
                given.undo()
            given.put(0, 1)
            self.assertEqual(given.undo(), ("put", 0, 1))
            with self.assertRaises(NothingDone):
                given.undo()
            given.put(0, 0)

        def outer(given):
            given.put(0, 1)
            given.attempt(inner)
            # What was done in an attempt within this one, and ended well, was done in this one, too.
            self.assertEqual((given.undo(), given.undo()), (("put", 0, 0), ("put", 0, 1)))
            with self.assertRaises(NothingDone):
                given.undo()

        table.attempt(outer)
        self.assertEqual((table.journal, table.undo()), ([("add", (1,))], ("add", (1,))))

    def test_an_inner_error_that_is_caught(self):
        table = Table(example_plan())

        def inner(given):
            given.add((1,))
            given.put(0, 1)
            raise Stop

        def outer(given):
            given.add((1,))
            with self.assertRaises(Stop):
                given.attempt(inner)
            self.assertEqual((given.journal, given.wording), ([("add", (1,))], (0,)))
            return given.add((1,))

        self.assertEqual(table.attempt(outer), 1)
        self.assertEqual(table.journal, [("add", (1,)), ("add", (1,))])

    def test_an_outer_error_takes_back_inner_ones(self):
        table = Table(example_plan())

        def outer(given):
            given.attempt(lambda again: again.add((1,)))
            given.attempt(lambda again: again.put(0, 1))
            raise Stop

        with self.assertRaises(Stop):
            table.attempt(outer)
        self.assertEqual((table.journal, table.numbers, table.wording), ([], [], (0,)))
        self.assertEqual(table.add((1,)), 0)
        self.assertEqual(table.undo(), ("add", (1,)))

    def test_another_table_is_not_touched(self):
        table, other = Table(example_plan()), Table(example_plan())

        def work(given):
            given.add((1,))
            other.add((1,))
            raise Stop

        with self.assertRaises(Stop):
            table.attempt(work)
        self.assertEqual((table.numbers, other.numbers), ([], [0]))

    def test_what_is_no_function(self):
        table = Table(example_plan())
        table.add((1,))
        for work in (None, 0, "work"):
            with self.assertRaises(TypeError):
                table.attempt(work)
        self.assertEqual(table.undo(), ("add", (1,)))


class TestErrors(unittest.TestCase):
    def setUp(self):
        self.no_numbers = [-1, 1, 2, *wrong_values(), True, False, "0", (0,), Hostile()]
        self.no_rows = [*wrong_values()[::2], (0, 2), (0,), (0, 0, 0), [0, 0], (0, True), (-1, 0), 0, Hostile(),
                        (0, Hostile())]

    def test_plans(self):
        assert_errors_in_order(self, Table, (example_plan(),),
                               [(0, BadPlan, [*wrong_values(), example_plan().book, X, Plan])])

    def table(self):
        table = Table(mixed_plan())
        table.add((0, 1))
        return table

    def test_arguments(self):
        def call(name):
            return lambda *arguments: getattr(self.table(), name)(*arguments)

        no_settings = [*wrong_values(), 2, -1, True, False, "0", Hostile()]
        no_things = [3, *wrong_values()[::2], True, -1, "0", Hostile()]
        assert_errors_in_order(self, call("take"), (0,), [(0, NoRow, self.no_numbers)])
        assert_errors_in_order(self, call("__getitem__"), (0,), [(0, NoRow, self.no_numbers)])
        assert_errors_in_order(self, call("__setitem__"), (0, (0, 1)),
                               [(0, NoRow, self.no_numbers), (1, BadRow, self.no_rows)])
        assert_errors_in_order(self, call("add"), ((0, 1),), [(0, BadRow, self.no_rows)])
        assert_errors_in_order(self, call("use"), (0,), [(0, BadSetting, no_settings)])
        assert_errors_in_order(self, call("put"), (0, 2), [
            (0, BadFunction, [2, *wrong_values()[::2], True, -1, "0", Hostile()]),
            (1, BadBody, [3, *wrong_values()[::2], True, -1, "0", Hostile()])])
        assert_errors_in_order(self, call("build"), (2,), [(0, BadThing, no_things)])
        assert_errors_in_order(self, call("seek"), (2, 1), [
            (0, BadThing, no_things), (1, BadAsk, [2, *wrong_values()[::2], True, False, -1, "0", Hostile()])])

    def assert_refused(self, error, table, function):
        before = (table.wording, table.session, table.numbers, table.journal,
                  [table[number] for number in table.numbers])
        with self.assertRaises(error) as caught:
            function(table)
        self.assertIs(caught.exception.__class__, error)
        after = (table.wording, table.session, table.numbers, table.journal,
                 [table[number] for number in table.numbers])
        self.assertEqual(after, before)

    def test_in_order_and_without_change(self):
        table = self.table()
        # Only the first function is free, and only the setting 1 writes; by this body some row does not pass.
        table.put(0, 1)
        self.assert_refused(BadFree, table, lambda t: t.put(1, 0))
        self.assert_refused(BadBody, table, lambda t: t.put(1, 1))
        self.assert_refused(BadBody, table, lambda t: t.put(0, 3))
        self.assert_refused(BadFunction, table, lambda t: t.put(2, 0))
        self.assert_refused(Refused, table, lambda t: t.add(refused_row(t)))
        self.assert_refused(Refused, table, lambda t: t.__setitem__(0, refused_row(t)))
        self.assert_refused(NoRow, table, lambda t: t.__setitem__(1, refused_row(t)))
        refused = refused_row(table)
        table.use(0)
        self.assert_refused(BadSetting, table, lambda t: t.add(refused))
        self.assert_refused(BadSetting, table, lambda t: t.add((0, 1)))
        self.assert_refused(BadRow, table, lambda t: t.add((0,)))
        self.assert_refused(BadSetting, table, lambda t: t.__setitem__(0, refused))
        self.assert_refused(BadRow, table, lambda t: t.__setitem__(0, (0, 2)))
        self.assert_refused(NoRow, table, lambda t: t.__setitem__(1, None))
        self.assert_refused(BadThing, table, lambda t: t.build(3))
        self.assert_refused(BadSetting, table, lambda t: t.build(0))
        self.assert_refused(NoRow, table, lambda t: t.take(7))
        self.assert_refused(BadSetting, table, lambda t: t.use(2))
        self.assert_refused(BadAsk, table, lambda t: t.seek(0, 2))
        self.assert_refused(BadThing, table, lambda t: t.seek(True, 2))

    def test_refused_in_an_attempt(self):
        table = self.table()
        self.assert_refused(NothingDone, table, lambda t: t.attempt(lambda given: given.undo()))
        self.assert_refused(BadFree, table, lambda t: t.attempt(lambda given: (given.take(0), given.put(1, 0))))

    def test_other_classes(self):
        table = self.table()
        assert_no_other_equal(self, [table], [table.plan, table.plan.book, X])

    def test_three_plan_takes_askers_for_sessions(self):
        table = Table(three_plan())
        self.assertEqual((table.session, table.use(1), table.add((2,))), (0, 0, 0))


def refused_row(table):
    """A row that does not pass now."""
    model = Model(table.plan, table.journal)
    wording, session, _, _ = model.now()
    return [row for row in table.plan.rows() if model.written(wording, session, row) is None][0]


if __name__ == "__main__":
    unittest.main()
