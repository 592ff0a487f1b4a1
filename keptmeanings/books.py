"""Books: functions with several bodies, one of which each has now, by a wording."""

from keptmeanings.checks import check_body, check_function, check_number, check_setting, check_wording, is_below
from keptmeanings.errors import BadBook
from keptmeanings.forms import Form
from keptmeanings.reckoning import tables_by
from keptmeanings.trees import numbers_after

LEAST_BASE = 2
MOST_BASE = 3
MOST_FUNCTIONS = 3
MOST_BODIES = 3


class Book:
    """A base, how many settings there are, and the bodies of the functions; it never changes."""

    def __init__(self, base, settings, functions):
        if not is_below(base, MOST_BASE + 1) or base < LEAST_BASE:
            raise BadBook("BASE")
        if not is_below(settings, base + 1) or settings == 0:
            raise BadBook("SETTINGS")
        if not are_functions(functions, base):
            raise BadBook("FUNCTIONS")
        self._base = base
        self._settings = settings
        self._functions = functions

    @property
    def base(self):
        """The number that all numbers of the book are below."""
        return self._base

    @property
    def settings(self):
        """How many settings there are."""
        return self._settings

    @property
    def functions(self):
        """The tuple with a tuple of Forms, its bodies, for each function."""
        return self._functions

    def wordings(self):
        """The list of all wordings, in order."""
        found = [()]
        for bodies in self._functions:
            found = [wording + (body,) for wording in found for body in range(len(bodies))]
        return found

    def put(self, wording, function, body):
        """The wording in which the body is put."""
        check_wording(self, wording)
        check_function(self, function)
        check_body(self, function, body)
        return wording[:function] + (body,) + wording[function + 1:]

    def tell(self, wording, setting, function, number):
        """The number that a function tells for a number, by a wording and a setting."""
        check_wording(self, wording)
        check_setting(self, setting)
        check_function(self, function)
        check_number(self, number)
        return tables_by(self, wording, setting)[function][number]

    def table(self, wording, setting, function):
        """The list of what a function tells for all numbers, by a wording and a setting."""
        check_wording(self, wording)
        check_setting(self, setting)
        check_function(self, function)
        return tables_by(self, wording, setting)[function]

    def __len__(self):
        return len(self._functions)

    def __getitem__(self, function):
        check_function(self, function)
        return self._functions[function]

    def __iter__(self):
        raise TypeError("a Book is not iterated over")

    def __xor__(self, other):
        if not isinstance(other, Book):
            raise BadBook(None)
        one, two = self._functions, other.functions
        # A slice of one function is empty where a book does not have it.
        return [k for k in range(max(len(one), len(two))) if one[k:k + 1] != two[k:k + 1]]

    def __eq__(self, other):
        return (isinstance(other, Book) and self.base == other.base and self.settings == other.settings
                and self.functions == other.functions)


def is_group(value, most):
    """Whether a value of any kind is a tuple of one item to the most that there may be."""
    return isinstance(value, tuple) and 1 <= len(value) <= most


def are_functions(functions, base):
    """Whether a value of any kind is a tuple of the bodies of functions of a book with this base."""
    if not is_group(functions, MOST_FUNCTIONS):
        return False
    for function, bodies in enumerate(functions):
        if not is_group(bodies, MOST_BODIES) or not all([is_body(body, base, function) for body in bodies]):
            return False
    return True


def is_body(body, base, function):
    """Whether a value of any kind is a Form that can be a body of the function with this number."""
    if not isinstance(body, Form) or body.columns != () or body.reads != ():
        return False
    numbers = numbers_after(body.tree, "number")
    return all([number < base for number in numbers]) and all([called < function for called in body.calls])
