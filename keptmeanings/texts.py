"""Texts: forms, books, plans and histories are written, and read again."""

from keptmeanings.books import LEAST_BASE, MOST_BASE, MOST_BODIES, MOST_FUNCTIONS, Book, is_body, is_group
from keptmeanings.errors import BadBook, BadForm, BadText
from keptmeanings.forms import Form
from keptmeanings.meanings import Meanings
from keptmeanings.plans import MOST_COLUMNS, MOST_THINGS, Plan, check_plan, is_ascending, is_thing
from keptmeanings.rows import MOST_DEEDS, deeds_of, first_state, state_after, states_of
from keptmeanings.spelling import form_in, spelled

DIGITS = {"0": 0, "1": 1, "2": 2, "3": 3}


def write_form(form):
    """The text of a form."""
    if not isinstance(form, Form):
        raise BadForm("not a Form")
    return spelled(form.tree)


def write_book(book):
    """The text of a book."""
    if not isinstance(book, Book):
        raise BadBook(None)
    return text_of(book_lines(book))


def write_plan(plan):
    """The text of a plan."""
    check_plan(plan)
    things = [f"thing {mode} {spelled(form.tree)}" for mode, form in plan.things]
    sessions = [line_of("writers", plan.writers), line_of("askers", plan.askers)]
    return text_of([*book_lines(plan.book), f"columns {plan.columns}", *things, line_of("free", plan.free), *sessions])


def write_history(plan, history):
    """The text of a history of a plan."""
    # This raises the error if it is none.
    states_of(plan, history)
    return text_of([deed_line(deed) for deed in history])


def read_form(text):
    """The form that is written."""
    form = form_in(text) if isinstance(text, str) else None
    if form is None:
        raise BadText(None)
    return form


def read_book(text):
    """The book that is written."""
    lines = lines_of(text)
    book = book_in(lines)
    check_end(text, lines, 2 + len(book))
    return book


def read_plan(text):
    """The plan that is written."""
    lines = lines_of(text)
    book = book_in(lines)
    at = 2 + len(book)
    columns = number_in(lines, at, "columns", 1, MOST_COLUMNS)
    things = things_in(lines, at + 1, book, columns)
    at += 1 + len(things)
    free = numbers_in(lines, at, "free", len(book), 0)
    writers = numbers_in(lines, at + 1, "writers", book.settings, 1)
    askers = numbers_in(lines, at + 2, "askers", book.settings, 1)
    check_end(text, lines, at + 3)
    return Plan(book, columns, tuple(things), free=free, writers=writers, askers=askers)


def read_history(plan, text):
    """The history of a plan that is written."""
    check_plan(plan)
    lines = lines_of(text)
    meanings = Meanings(plan)
    state = first_state(plan)
    history = []
    for at, line in enumerate(lines):
        known = {deed_line(deed): deed for deed in deeds_of(plan, state)}
        if at == MOST_DEEDS or line not in known:
            raise BadText(at)
        history.append(known[line])
        state = state_after(meanings, state, known[line])
    check_end(text, lines, len(lines))
    return history


def text_of(lines):
    """The text with these lines."""
    return "".join([line + "\n" for line in lines])


def book_lines(book):
    """The list of the lines of a book."""
    functions = ["function " + " ".join([spelled(body.tree) for body in bodies]) for bodies in book.functions]
    return [f"base {book.base}", f"settings {book.settings}", *functions]


def line_of(word, numbers):
    """The line of a word and the numbers behind it."""
    return " ".join([word, *[str(number) for number in numbers]])


def deed_line(deed):
    """The line of a deed of a history."""
    word, what, by = deed
    if word == "write":
        return f"{line_of(word, what)} by {by}"
    return line_of(word, (what, by))


def lines_of(text):
    """The list of the lines of a text, without their ends; raise BadText if the value, of any kind, is no text."""
    if not isinstance(text, str):
        raise BadText(None)
    return text.split("\n")[:-1]


def words_at(lines, at):
    """The list of the words of a line; there are none where there is no such line."""
    return lines[at].split(" ") if at < len(lines) else []


def check_end(text, lines, at):
    """Raise BadText if there are more lines than so many, or something follows the last line feed."""
    if at != len(lines) or (text != "" and not text.endswith("\n")):
        raise BadText(at)


def number_in(lines, at, word, least, most):
    """The number, from the least to the most, behind a word on a line; raise BadText if it is not there."""
    words = words_at(lines, at)
    if len(words) != 2 or words[0] != word or DIGITS.get(words[1]) not in range(least, most + 1):
        raise BadText(at)
    return DIGITS[words[1]]


def numbers_in(lines, at, word, limit, least):
    """The ascending tuple of at least so many numbers below a limit behind a word on a line, likewise."""
    words = words_at(lines, at)
    numbers = tuple([DIGITS.get(digit) for digit in words[1:]])
    if words[:1] != [word] or not is_ascending(numbers, limit) or len(numbers) < least:
        raise BadText(at)
    return numbers


def book_in(lines):
    """The book that the first lines write; raise BadText if they do not."""
    base = number_in(lines, 0, "base", LEAST_BASE, MOST_BASE)
    settings = number_in(lines, 1, "settings", 1, base)
    functions = []
    bodies = bodies_in(words_at(lines, 2), base, 0)
    while bodies is not None and len(functions) < MOST_FUNCTIONS:
        functions.append(bodies)
        bodies = bodies_in(words_at(lines, 2 + len(functions)), base, len(functions))
    if functions == []:
        raise BadText(2)
    return Book(base, settings, tuple(functions))


def bodies_in(words, base, function):
    """The tuple of the bodies of a function with this number that the words of a line write, None if they do not."""
    if words[:1] != ["function"]:
        return None
    bodies = tuple([form_in(word) for word in words[1:]])
    return bodies if is_group(bodies, MOST_BODIES) and all([is_body(body, base, function) for body in bodies]) else None


def things_in(lines, at, book, columns):
    """The list of the things that lines from this one on write; raise BadText if none does."""
    things = []
    thing = thing_in(words_at(lines, at), book, columns, [])
    while thing is not None and len(things) < MOST_THINGS:
        things.append(thing)
        thing = thing_in(words_at(lines, at + len(things)), book, columns, [mode for mode, _ in things])
    if things == []:
        raise BadText(at)
    return things


def thing_in(words, book, columns, earlier):
    """The thing, behind things with the earlier modes, that the words of a line write, None if they write none."""
    if len(words) != 3 or words[0] != "thing":
        return None
    thing = (words[1], form_in(words[2]))
    return thing if is_thing(thing, book, columns, earlier) else None
