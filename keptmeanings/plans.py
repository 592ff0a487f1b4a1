"""Plans: the columns of a table, the things that lean on functions, and what may be redefined, by whom and for whom."""

from keptmeanings.books import Book, is_group
from keptmeanings.checks import check_thing, is_below
from keptmeanings.errors import BadFree, BadPlan
from keptmeanings.forms import Form
from keptmeanings.trees import numbers_after

MODES = ("kept", "again", "check")
MOST_COLUMNS = 2
MOST_THINGS = 3


class Plan:
    """A book, columns, things, free functions, writers and askers; it never changes."""

    def __init__(self, book, columns, things, *, free=None, writers=None, askers=None):
        if not isinstance(book, Book):
            raise BadPlan(None)
        if not is_below(columns, MOST_COLUMNS + 1) or columns == 0:
            raise BadPlan("COLUMNS")
        if not are_things(things, book, columns):
            raise BadPlan("THINGS")
        if free is not None and not is_ascending(free, len(book)):
            raise BadPlan("FREE")
        if writers is not None and not are_sessions(writers, book):
            raise BadPlan("WRITERS")
        if askers is not None and not are_sessions(askers, book):
            raise BadPlan("ASKERS")
        self._book = book
        self._columns = columns
        self._things = things
        self._free = free if free is not None else tuple(range(len(book)))
        self._writers = writers if writers is not None else tuple(range(book.settings))
        self._askers = askers if askers is not None else tuple(range(book.settings))

    @property
    def book(self):
        """The Book whose functions the things call."""
        return self._book

    @property
    def columns(self):
        """How many columns there are."""
        return self._columns

    @property
    def things(self):
        """The tuple of the things: pairs of a mode and a Form."""
        return self._things

    @property
    def free(self):
        """The ascending tuple of the functions that can be redefined."""
        return self._free

    @property
    def writers(self):
        """The ascending tuple of the settings of sessions that write and rebuild."""
        return self._writers

    @property
    def askers(self):
        """The ascending tuple of the settings of sessions that ask."""
        return self._askers

    def rows(self):
        """The list of all rows, in order."""
        found = [()]
        for _ in range(self._columns):
            found = [row + (number,) for row in found for number in range(self._book.base)]
        return found

    def names(self, thing):
        """The ascending list of the functions that a thing names."""
        check_thing(self, thing)
        named = {function: True for function in called_for(self, thing)}
        # Bodies call earlier functions only, so going down from the last one meets all that they name.
        for function in reversed(range(len(self._book))):
            if function in named:
                for body in self._book.functions[function]:
                    for called in body.calls:
                        named[called] = True
        return [function for function in range(len(self._book)) if function in named]

    def __len__(self):
        return len(self._things)

    def __getitem__(self, thing):
        check_thing(self, thing)
        return self._things[thing]

    def __iter__(self):
        raise TypeError("a Plan is not iterated over")

    def __or__(self, functions):
        check_functions(self._book, functions)
        return with_free(self, [k for k in range(len(self._book)) if k in self._free or k in functions])

    def __sub__(self, functions):
        check_functions(self._book, functions)
        return with_free(self, [k for k in self._free if k not in functions])

    def __eq__(self, other):
        return (isinstance(other, Plan) and self.book == other.book and self.columns == other.columns
                and self.things == other.things and self.free == other.free and self.writers == other.writers
                and self.askers == other.askers)


def check_plan(plan):
    """Raise BadPlan if this is not a Plan."""
    if not isinstance(plan, Plan):
        raise BadPlan(None)


def check_functions(book, functions):
    """Raise BadFree if this is not a list or tuple of functions of the book."""
    if not isinstance(functions, (list, tuple)) or not all([is_below(k, len(book)) for k in functions]):
        raise BadFree("not a list or tuple of functions of the book")


def with_free(plan, free):
    """The plan in which these functions, and no others, are free."""
    return Plan(plan.book, plan.columns, plan.things, free=tuple(free), writers=plan.writers, askers=plan.askers)


def called_for(plan, thing):
    """The functions that the form of a thing calls, or the form of a thing that it reads."""
    form = plan.things[thing][1]
    called = list(form.calls)
    for read in form.reads:
        called.extend(called_for(plan, read))
    return called


def is_ascending(value, limit):
    """Whether a value of any kind is an ascending tuple of integers from 0 to below the limit."""
    if not isinstance(value, tuple) or not all([is_below(number, limit) for number in value]):
        return False
    return all([one < other for one, other in zip(value, value[1:])])


def are_sessions(value, book):
    """Whether a value of any kind is an ascending tuple of one or more settings of the book."""
    return is_ascending(value, book.settings) and len(value) > 0


def are_things(things, book, columns):
    """Whether a value of any kind is a tuple of things of a plan with this book and these columns."""
    if not is_group(things, MOST_THINGS):
        return False
    earlier = []
    for thing in things:
        if not is_thing(thing, book, columns, earlier):
            return False
        earlier.append(thing[0])
    return True


def is_thing(thing, book, columns, earlier):
    """Whether a value of any kind can be a thing, behind things with the modes in the list earlier."""
    if not isinstance(thing, tuple) or len(thing) != 2:
        return False
    mode, form = thing
    if not isinstance(mode, str) or mode not in MODES or not isinstance(form, Form) or "given" in form:
        return False
    if not all([number < book.base for number in numbers_after(form.tree, "number")]):
        return False
    if not all([called < len(book) for called in form.calls]):
        return False
    if not all([column < columns for column in form.columns]):
        return False
    # A slice of one mode is empty where there is no such earlier thing.
    return all([earlier[read:read + 1] == ["kept"] for read in form.reads])
