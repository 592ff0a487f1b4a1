import re
import unittest
from random import Random

from keptmeanings.books import Book
from keptmeanings.errors import BadBook, BadForm, BadHistory, BadPlan, BadText
from keptmeanings.forms import Form
from keptmeanings.plans import Plan
from keptmeanings.texts import (read_book, read_form, read_history, read_plan, write_book, write_form, write_history,
                                write_plan)
from tests.reading import Reading
from tests.samples import G, K, L, S, X, Y, example_plan, few_plans, made_plans, mixed_plan
from tests.support import Hostile, assert_errors_in_order, trees_to, wrong_values

PLANS = few_plans() + made_plans(81, 40)
LEAVES = [("number", 0), ("number", 1), ("number", 2), ("given",), ("setting",), ("column", 0), ("column", 1),
          ("kept", 0),
          ("kept", 1)]


# Point [14], read a second time: a text is a form if it can be reduced to a single sign, step by step.

def is_form_text(text):
    if "@" in text:
        return False
    many = 0
    for leaf in (r"[ck][01]", r"(?<![fck])[012]", r"[gs]"):
        text, found = re.subn(leaf, "@", text)
        many += found
    found = 1
    while found:
        text, found = re.subn(r"f[012]\(@\)|\(@[-+*=]@\)|\(@\?@:@\)", "@", text)
        many += found
    return text == "@" and many <= 12


def numbers_in(text):
    return [int(digit) for digit in re.findall(r"(?<![fck])[0-9]", text)]


def after_letter(letter, text):
    return [int(digit) for digit in re.findall(letter + "([0-9])", text)]


def is_body_text(text, base, function):
    return (is_form_text(text) and "c" not in text and "k" not in text and all(n < base for n in numbers_in(text))
            and all(k < function for k in after_letter("f", text)))


def is_thing_text(text, base, functions, columns, earlier):
    if not is_form_text(text) or "g" in text or any(n >= base for n in numbers_in(text)):
        return False
    reads = after_letter("k", text)
    return (all(k < functions for k in after_letter("f", text)) and all(c < columns for c in after_letter("c", text))
            and all(t < len(earlier) and earlier[t] == "kept" for t in reads))


class Lines:
    """The lines of a text, each of which is looked at by a test that finds nothing if it cannot stand there."""

    def __init__(self, text):
        *self.lines, self.rest = re.split("\n", text)
        self.at = 0

    def match(self, pattern):
        found = re.fullmatch(pattern, self.lines[self.at]) if self.at < len(self.lines) else None
        self.at += found is not None
        return found

    def end(self):
        """None if the text is read, otherwise the row of the error."""
        return None if self.at == len(self.lines) and not self.rest else self.at


def book_lines(lines):
    """The base, how many settings and how many functions the first lines tell; None if they do not."""
    base = lines.match("base ([23])")
    base = int(base[1]) if base else None
    settings = lines.match(f"settings ([1-{base}])") if base else None
    many = 0
    while settings and many < 3:
        found = lines.match("function ([^ ]+)( [^ ]+)?( [^ ]+)?")
        if not found or not all(is_body_text(text.strip(" "), base, many) for text in found.groups() if text):
            lines.at -= found is not None
            break
        many += 1
    return (base, int(settings[1]), many) if many else None


def book_row(text):
    lines = Lines(text)
    return lines.end() if book_lines(lines) else lines.at


def sessions(lines, word, limit, least):
    found = lines.match(f"{word}((?: [0-9])*)")
    numbers = [int(digit) for digit in found[1].split()] if found else []
    if found and (numbers != sorted(set(numbers)) or len(numbers) < least or any(n >= limit for n in numbers)):
        lines.at -= 1
        return False
    return found is not None


def plan_row(text):
    lines = Lines(text)
    book = book_lines(lines)
    columns = lines.match("columns ([12])") if book else None
    if not columns:
        return lines.at
    base, settings, functions = book
    modes = []
    while len(modes) < 3:
        found = lines.match("thing (kept|again|check) ([^ ]+)")
        if not found or not is_thing_text(found[2], base, functions, int(columns[1]), modes):
            lines.at -= found is not None
            break
        modes.append(found[1])
    if (modes and sessions(lines, "free", functions, 0) and sessions(lines, "writers", settings, 1)
            and sessions(lines, "askers", settings, 1)):
        return lines.end()
    return lines.at


def deed_in(line):
    found = re.fullmatch("(put|build) ([0-9]) ([0-9])", line)
    if found:
        return (found[1], int(found[2]), int(found[3]))
    found = re.fullmatch("write ((?:[0-9] )+)by ([0-9])", line)
    return ("write", tuple(int(digit) for digit in found[1].split()), int(found[2])) if found else None


def history_row(reading, text):
    lines = Lines(text)
    state = reading.first
    for at, line in enumerate(lines.lines):
        deed = deed_in(line)
        if at == 100 or deed not in reading.deeds(state):
            return at
        state = reading.after(state, deed)
    lines.at = len(lines.lines)
    return lines.end()


def changed_signs(text, random, many):
    """Texts that differ from this one by a few signs."""
    signs = "0123gsckf()+-*=?: \n\t\r/xby" + "²½٣é"
    found = []
    for _ in range(many):
        at, other = random.randrange(len(text) + 1), random.randrange(len(text) + 1)
        found += [text[:at] + text[at + 1:], text[:at] + text[at:at + 1] + text[at:], text[:at], text[at:],
                  text[:at] + random.choice(signs) + text[at:], text[:at] + random.choice(signs) + text[at + 1:],
                  text[:at] + text[at:at + 2][::-1] + text[at + 2:], text[:min(at, other)] + text[max(at, other):],
                  text[:at] + text[min(at, other):max(at, other)] + text[at:]]
    return found


def changed_lines(text, random, many):
    """Texts that differ from this one by a few lines."""
    lines = text.splitlines(keepends=True)
    found = ["", "\n", text + "\n", "\n" + text, text + " ", text + "x", text[:-1], text.upper(),
             text.replace("\n", "\r\n"),
             text.replace("\n", "\r"), text.replace("\n", " \n"), text.replace(" ", "  "), text.replace(" ", "\t"),
             text + text,
             text.replace("\n", "\u2028"), text.replace("\n", "\x0b"), " " + text]
    for at in range(len(lines)):
        found += ["".join(lines[:at] + lines[at + 1:]), "".join(lines[:at + 1] + lines[at:]), "".join(lines[:at]),
                  "".join(lines[:at] + lines[at:at + 2][::-1] + lines[at + 2:]),
                  "".join(lines[:at] + ["\n"] + lines[at:])]
    for _ in range(many):
        at, other = random.randrange(len(lines)), random.randrange(len(lines))
        found.append("".join(lines[:at] + [lines[other]] + lines[at:]))
        found.append("".join(lines[:at] + [lines[other]] + lines[at + 1:]))
    return found


class TestForms(unittest.TestCase):
    def test_all_small_forms(self):
        trees = trees_to(3, LEAVES, range(3)) + trees_to(4, LEAVES[2:6], (1,))
        texts = {}
        for tree in trees:
            text = write_form(Form(tree))
            self.assertTrue(is_form_text(text), text)
            self.assertEqual(read_form(text).tree, tree)
            self.assertIs(read_form(text).__class__, Form)
            texts[text] = tree
        self.assertEqual(len(texts), len(set(trees)))

    def test_written_out(self):
        self.assertEqual([write_form(Form(leaf)) for leaf in LEAVES],
                         ["0", "1", "2", "g", "s", "c0", "c1", "k0", "k1"])
        self.assertEqual([write_form(G.by(k)) for k in range(3)], ["f0(g)", "f1(g)", "f2(g)"])
        self.assertEqual([write_form(one) for one in (G + S, G - 1, 1 - G, X * Y, K.same(L), S.then(X, Y))],
                         ["(g+s)", "(g-1)", "(1-g)", "(c0*c1)", "(k0=k1)", "(s?c0:c1)"])
        self.assertEqual(write_form((X + 1).by(2).then(-X, X.same(0)).by(1)), "f1((f2((c0+1))?(0-c0):(c0=0)))")

    def test_changed(self):
        seen = {True: 0, False: 0}
        random = Random(82)
        forms = [body for plan in PLANS for bodies in plan.book.functions for body in bodies]
        forms += [form for plan in PLANS for _, form in plan.things]
        for form in forms:
            for text in changed_signs(write_form(form), random, 4):
                if is_form_text(text):
                    self.assertEqual(write_form(read_form(text)), text)
                else:
                    self.assert_bad(text)
                seen[is_form_text(text)] += 1
        self.assertTrue(seen[True] > 300 and seen[False] > 3000, seen)

    def assert_bad(self, text):
        with self.assertRaises(BadText) as caught:
            read_form(text)
        self.assertIsNone(caught.exception.row)

    def test_twelve_and_thirteen(self):
        for many, good in [(11, True), (12, True), (13, False), (14, False), (60, False)]:
            text = "f0(" * (many - 1) + "g" + ")" * (many - 1)
            self.assertIs(is_form_text(text), good)
            if good:
                self.assertEqual((len(read_form(text)), write_form(read_form(text))), (many, text))
            else:
                self.assert_bad(text)
        eleven = "(" * 5 + "c0" + "-c1)" * 5
        self.assertEqual(len(read_form(eleven)), 11)
        self.assertEqual(len(read_form(f"f1({eleven})")), 12)
        self.assert_bad(f"f1(f1({eleven}))")
        self.assert_bad(f"({eleven}+0)")
        choices = "(g?" * 3 + "0" + ":1)" * 3
        self.assertEqual(len(read_form(choices)), 10)
        self.assertEqual(len(read_form(f"f0(f2({choices}))")), 12)
        self.assert_bad(f"(g?{choices}:s)")

    def test_the_longest(self):
        for text in ["f0(" * 11 + "c1" + ")" * 11, "(k0?" * 3 + "k1" + ":c0)" * 3,
                     "f2(f1((k0?k0:(k0?k0:(k0?k0:k0)))))"]:
            self.assertEqual(write_form(read_form(text)), text)

    def test_deep_texts(self):
        for text in ["(" * 100000, "f0(" * 100000, "f0(" * 5000 + "g" + ")" * 5000, "(g?" * 9000, "((((((((((((g",
                     "g" * 10 ** 6,
                     "(g+" * 20000 + "g" + ")" * 20000]:
            self.assert_bad(text)

    def test_what_is_no_text(self):
        for value in wrong_values():
            if value.__class__ is not str or value == "":
                self.assert_bad(value)
        for text in ["", " ", "\n", "g\n", " g", "g ", "3", "9", "01", "-1", "f3(g)", "f(g)", "f0g", "c2", "k2", "c",
                     "k", "f0()", "()",
                     "(g)", "g+s", "(g +s)", "(g/s)", "(g+s))", "((g+s)", "(g+s+0)", "(g?s)", "(g?s:0:1)", "(g:s?0)",
                     "G", "S", "gs",
                     "(g==s)", "(g-)", "(-g)", "f0(g", "f0 (g)", "f0(g))", "('given',)", "²", "(g+²)", "f²(g)", "c٠",
                     b"g".hex()]:
            self.assert_bad(text)


class TestBooks(unittest.TestCase):
    def test_all(self):
        for plan in PLANS:
            text = write_book(plan.book)
            self.assertEqual(read_book(text), plan.book)
            self.assertEqual((book_row(text), write_book(read_book(text))), (None, text))

    def test_written_out(self):
        book = Book(3, 2, ((G + 1, G * G), (G.by(0) + S,), (S, G, G)))
        text = "base 3\nsettings 2\nfunction (g+1) (g*g)\nfunction (f0(g)+s)\nfunction s g g\n"
        self.assertEqual((write_book(book), read_book(text) == book), (text, True))

    def test_changed(self):
        seen = {}
        random = Random(83)
        for plan in PLANS:
            text = write_book(plan.book)
            for other in changed_lines(text, random, 3) + changed_signs(text, random, 15):
                row = book_row(other)
                if row is None:
                    self.assertEqual(write_book(read_book(other)), other)
                else:
                    self.assert_row(row, other)
                seen[row] = seen.get(row, 0) + 1
        self.assertTrue(all(seen.get(row, 0) > 60 for row in (None, 0, 1, 2, 3, 4)), seen)

    def assert_row(self, row, text):
        with self.assertRaises(BadText) as caught:
            read_book(text)
        self.assertEqual(caught.exception.row, row, repr(text) if isinstance(text, str) else "no text")

    def test_rows(self):
        good = "base 2\nsettings 2\nfunction g\nfunction f0(g) s (1-s)\n"
        self.assertEqual(read_book(good), Book(2, 2, ((G,), (G.by(0), S, 1 - S))))
        for row, text in [
                (0, ""), (0, "base 2"), (0, "\n"), (0, "base 1\n" + good), (0, "base 4\nsettings 9\n"),
                (0, "base  2\nsettings 1\n"),
                (1, "base 2\n"), (1, "base 2\nsettings 2"), (1, "base 2\nsettings 3\n"), (1, "base 2\nsettings 0\n"),
                (1, "base 2\n\n"),
                (2, "base 2\nsettings 2\n"), (2, "base 2\nsettings 2\nfunction\n"),
                (2, "base 2\nsettings 2\nfunction \n"),
                (2, "base 2\nsettings 2\nfunction g"), (2, "base 2\nsettings 2\nfunction 2\n"),
                (2, "base 2\nsettings 2\nfunction f0(g)\n"),
                (2, "base 2\nsettings 2\nfunction g g g g\n"), (2, "base 2\nsettings 2\nfunction c0\n"),
                (2, "base 2\nsettings 2\nfunction k0\n"), (2, "base 2\nsettings 2\nfunction g  g\n"),
                (2, "base 2\nsettings 2\nfunction g \n"), (3, "base 2\nsettings 2\nfunction g\nfunction f1(g)\n"),
                (4, good + "g"), (4, good + "\n"),
                (4, good + "function f2(g)\n"), (4, good + "base 2\n"), (4, good + "function g"),
                (5, good + "function f1(f0(g))\n "),
                (5, good + "function g\nfunction g\n"), (3, good.replace("function f0", "functions f0")),
                (3, good.replace("s (1", "s(1"))]:
            self.assert_row(row, text)
        self.assertEqual(len(read_book(good + "function f1(f0(g))\n")), 3)

    def test_what_is_no_text(self):
        for value in wrong_values():
            if value.__class__ is not str:
                self.assert_row(None, value)


class TestPlans(unittest.TestCase):
    def test_all(self):
        for plan in PLANS:
            text = write_plan(plan)
            self.assertEqual(read_plan(text), plan)
            self.assertEqual((plan_row(text), write_plan(read_plan(text))), (None, text))

    def test_written_out(self):
        plan = Plan(Book(3, 3, ((G,), (G.by(0), S), (G,))), 2,
                    (("kept", X), ("again", K.by(1) - Y), ("check", S.same(2))),
                    free=(0, 2), writers=(0, 1, 2), askers=(1,))
        text = ("base 3\nsettings 3\nfunction g\nfunction f0(g) s\nfunction g\ncolumns 2\nthing kept c0\n"
                "thing again (f1(k0)-c1)\nthing check (s=2)\nfree 0 2\nwriters 0 1 2\naskers 1\n")
        self.assertEqual((write_plan(plan), read_plan(text) == plan), (text, True))
        text = text.replace("free 0 2", "free")
        self.assertEqual((write_plan(plan - [0, 2]), read_plan(text) == plan - [0, 2]), (text, True))
        self.assertEqual(read_plan(text).free, ())

    def test_changed(self):
        seen = {}
        random = Random(84)
        for plan in PLANS:
            text = write_plan(plan)
            for other in changed_lines(text, random, 6) + changed_signs(text, random, 20):
                row = plan_row(other)
                if row is None:
                    self.assertEqual(write_plan(read_plan(other)), other)
                else:
                    self.assert_row(row, other)
                seen[row] = seen.get(row, 0) + 1
        self.assertTrue(all(seen.get(row, 0) > 60 for row in (None, *range(10))), seen)

    def assert_row(self, row, text):
        with self.assertRaises(BadText) as caught:
            read_plan(text)
        self.assertEqual(caught.exception.row, row, repr(text) if isinstance(text, str) else "no text")

    def test_rows(self):
        good = "base 2\nsettings 2\nfunction g\ncolumns 1\nthing kept c0\nfree 0\nwriters 0 1\naskers 1\n"
        self.assertEqual(read_plan(good), Plan(Book(2, 2, ((G,),)), 1, (("kept", X),), askers=(1,)))
        for row, old, new in [
                (3, "columns 1", "columns 3"), (3, "columns 1", "columns 0"), (3, "columns 1", "columns"),
                (3, "columns 1\n", ""),
                (4, "kept c0", "kept c1"), (4, "kept c0", "Kept c0"), (4, "kept c0", "kept g"),
                (4, "kept c0", "kept k0"),
                (4, "kept c0", "kept 2"), (4, "kept c0", "kept f1(c0)"), (4, "kept c0", "kept"),
                (4, "kept c0", "kept c0 c0"),
                (4, "thing kept c0\n", ""), (5, "free 0", "thing again k1\nfree 0"),
                (6, "free 0", "thing check k0\nthing kept k1\nfree 0"),
                (7, "free 0", "thing check k0\nthing kept k0\nthing kept c0\nfree 0"), (5, "free 0", "free 1"),
                (5, "free 0", "free 0 0"),
                (5, "free 0", "free "), (5, "free 0", "free  0"), (5, "free 0\n", ""), (5, "free 0", "free 0 1"),
                (6, "writers 0 1", "writers"),
                (6, "writers 0 1", "writers 1 0"), (6, "writers 0 1", "writers 0 2"), (6, "writers 0 1", "askers 0"),
                (7, "askers 1", "askers"),
                (7, "askers 1", "askers 2"), (7, "askers 1\n", "askers 1"), (8, "askers 1\n", "askers 1\naskers 1\n"),
                (8, "askers 1\n", "askers 1\n\n"),
                (8, "askers 1\n", "askers 1\n "), (7, "askers 1\n", ""), (2, "function g", "function k0"),
                (3, "columns", "function c0\ncolumns"),
                (4, "c0\nfree", "c0free"), (5, "free 0", "free 00"), (5, "free 0", "free -0"),
                (5, "free 0", "free 0."), (5, "free 0", "free ²")]:
            self.assertIn(old, good)
            self.assert_row(row, good.replace(old, new))
        several = "thing again k0\nthing check (k0=c0)\nfree"
        self.assertEqual(len(read_plan(good.replace("free 0", several))), 3)

    def test_what_is_no_text(self):
        for value in wrong_values():
            if value.__class__ is not str:
                self.assert_row(None, value)
        self.assert_row(0, "")


class TestHistories(unittest.TestCase):
    def history(self, reading, random, many):
        state, found = reading.first, []
        for _ in range(many):
            found.append(random.choice(reading.deeds(state)))
            state = reading.after(state, found[-1])
        return found

    def test_all(self):
        random = Random(85)
        for plan in PLANS:
            reading = Reading(plan)
            for many in (0, 1, 5, 30):
                history = self.history(reading, random, many)
                text = write_history(plan, history)
                self.assertEqual(write_history(plan, tuple(history)), text)
                self.assertEqual(read_history(plan, text), history)
                self.assertEqual((history_row(reading, text), text.count("\n")), (None, many))

    def test_written_out(self):
        plan = mixed_plan()
        history = [("put", 0, 2), ("build", 2, 1), ("write", (1, 0), 1), ("put", 0, 0)]
        text = "put 0 2\nbuild 2 1\nwrite 1 0 by 1\nput 0 0\n"
        self.assertEqual((write_history(plan, history), read_history(plan, text)), (text, history))
        self.assertEqual((write_history(plan, []), write_history(plan, ()), read_history(plan, "")), ("", "", []))
        self.assertEqual(read_history(example_plan(), "write 1 by 0\n"), [("write", (1,), 0)])

    def test_changed(self):
        seen = {}
        random = Random(86)
        for plan in PLANS:
            reading = Reading(plan)
            for many in (1, 4, 9):
                text = write_history(plan, self.history(reading, random, many))
                for other in changed_lines(text, random, 3) + changed_signs(text, random, 6):
                    row = history_row(reading, other)
                    if row is None:
                        self.assertEqual(write_history(plan, read_history(plan, other)), other)
                    else:
                        self.assert_row(row, plan, other)
                    seen[row] = seen.get(row, 0) + 1
        self.assertTrue(all(seen.get(row, 0) > 100 for row in (None, *range(8))), seen)

    def assert_row(self, row, plan, text):
        with self.assertRaises(BadText) as caught:
            read_history(plan, text)
        self.assertEqual(caught.exception.row, row, repr(text) if isinstance(text, str) else "no text")

    def test_a_hundred_deeds(self):
        plan = example_plan()
        text = "put 0 1\n" * 100
        self.assertEqual(read_history(plan, text), [("put", 0, 1)] * 100)
        self.assertEqual(write_history(plan, [("put", 0, 1)] * 100), text)
        self.assert_row(100, plan, text + "put 0 1\n")
        self.assert_row(100, plan, text + "put 0 1")
        self.assert_row(100, plan, text + "put 0 1\n" * 50)
        self.assert_row(100, plan, text + "x\n")
        self.assert_row(57, plan, "put 0 1\n" * 57 + "put 0 2\n" + text)
        with self.assertRaises(BadHistory):
            write_history(plan, [("put", 0, 1)] * 101)

    def test_rows(self):
        plan = example_plan()
        for row, text in [
                (0, "\n"), (0, "x"), (0, "put 0 1"), (1, "put 0 1\nx"), (1, "put 0 1\n "), (1, "put 0 1\n\n"),
                (0, "put 0 2\nput 0 1\n"),
                (0, "put 1 0\n"), (0, "build 0 1\n"), (0, "build 3 0\n"), (0, "write 1\n"), (0, "write 1 by 1\n"),
                (0, "write by 0\n"),
                (0, "write 1 0 by 0\n"), (0, "write 2 by 0\n"), (0, "write 1 by 0 \n"), (0, "write  1 by 0\n"),
                (0, "Write 1 by 0\n"),
                (1, "write 1 by 0\nwrite 1 by 0\n"), (3, "write 1 by 0\nput 0 1\nbuild 2 0\nbuild 3 0\n"),
                (0, "put 0 01\n"),
                (0, "put 0 +1\n"), (0, "put 0\n"), (0, "put 0 1 0\n"), (0, "take 0\n"), (0, " put 0 1\n"),
                (0, "put 0 1\r\n"), (0, "put 0 ¹\n")]:
            self.assert_row(row, plan, text)
        # The row that was there is gone, so another one can be written.
        text = "write 1 by 0\nput 0 1\nbuild 2 0\nwrite 0 by 0\n"
        self.assertEqual(read_history(plan, text)[3], ("write", (0,), 0))

    def test_what_is_no_text(self):
        for value in wrong_values():
            if value.__class__ is not str:
                self.assert_row(None, example_plan(), value)

    def test_lists_are_new_and_not_kept(self):
        plan = example_plan()
        history = [("put", 0, 1)]
        text = write_history(plan, history)
        history.clear()
        read_history(plan, text).clear()
        self.assertEqual(read_history(plan, text), [("put", 0, 1)])


class TestErrors(unittest.TestCase):
    def test_writing(self):
        plan = example_plan()
        no_forms = [*wrong_values(), G.tree, plan, plan.book, Form, [G], Hostile()]
        assert_errors_in_order(self, write_form, (G,), [(0, BadForm, no_forms)])
        assert_errors_in_order(self, write_book, (plan.book,),
                               [(0, BadBook, [*wrong_values(), plan, G, Book, Hostile()])])
        no_plans = [*wrong_values(), plan.book, G, Plan, Hostile()]
        assert_errors_in_order(self, write_plan, (plan,), [(0, BadPlan, no_plans)])
        no_histories = [None, *[value for value in wrong_values() if not isinstance(value, (list, tuple))
                                or len(value)], [None], [("put", 0, 2)], [("put", 0, True)], "put 0 1\n",
                                [("put", 0, 1)] * 101]
        assert_errors_in_order(self, write_history, (plan, [("put", 0, 1)]),
                               [(0, BadPlan, no_plans[::3]), (1, BadHistory, no_histories)])
        for value in (None, plan.book):
            with self.assertRaises(BadPlan) as caught:
                write_plan(value)
            self.assertIsNone(caught.exception.part)
        with self.assertRaises(BadBook) as caught:
            write_book(plan)
        self.assertIsNone(caught.exception.part)
        for index, history in [(1, [("put", 0, 1), None]), (None, "put"), (None, [("put", 0, 1)] * 101)]:
            with self.assertRaises(BadHistory) as caught:
                write_history(plan, history)
            self.assertEqual(caught.exception.index, index)

    def test_reading(self):
        plan = example_plan()
        no_texts = ["x", *[value for value in wrong_values() if not isinstance(value, str)], G, plan, Hostile()]
        for function, good in [(read_form, "g"), (read_book, write_book(plan.book)), (read_plan, write_plan(plan))]:
            assert_errors_in_order(self, function, (good,), [(0, BadText, no_texts)])
        no_plans = [None, *wrong_values()[::3], plan.book]
        assert_errors_in_order(self, read_history, (plan, ""), [(0, BadPlan, no_plans), (1, BadText, no_texts)])

    def test_argument_names(self):
        plan = example_plan()
        self.assertEqual(read_form(text=write_form(form=G)), G)
        self.assertEqual(read_book(text=write_book(book=plan.book)), plan.book)
        self.assertEqual(read_plan(text=write_plan(plan=plan)), plan)
        self.assertEqual(read_history(plan=plan, text=write_history(plan=plan, history=[])), [])

    def test_example_of_the_interface(self):
        plan = Plan(Book(2, 1, ((Form.given(), 1 - Form.given()),)), 1, (('kept', Form.column(0).by(0)),))
        self.assertEqual(
            [write_plan(plan), read_form('(s?f0(c0):1)').tree,
             write_history(plan, [('write', (1,), 0), ('put', 0, 1)])],
            ['base 2\nsettings 1\nfunction g (1-g)\ncolumns 1\nthing kept f0(c0)\nfree 0\nwriters 0\naskers 0\n',
             ('when', ('setting',), ('call', 0, ('column', 0)), ('number', 1)), 'write 1 by 0\nput 0 1\n'])


if __name__ == "__main__":
    unittest.main()
