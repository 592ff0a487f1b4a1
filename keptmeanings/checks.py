"""What the functions and methods of the package ask of their arguments."""

from keptmeanings.errors import BadBody, BadFunction, BadNumber, BadSetting, BadWording


def is_below(value, limit):
    """Whether a value of any kind is an integer from 0 to below the limit."""
    return isinstance(value, int) and not isinstance(value, bool) and 0 <= value < limit


def check_wording(book, wording):
    """Raise BadWording if this is not a wording of the book."""
    functions = book.functions
    if not isinstance(wording, tuple) or len(wording) != len(functions):
        raise BadWording("a wording is a tuple with the number of a body for each function")
    for body, bodies in zip(wording, functions):
        if not is_below(body, len(bodies)):
            raise BadWording("a wording has a number of a body for each function")


def check_setting(book, setting):
    """Raise BadSetting if this is not a setting of the book."""
    if not is_below(setting, book.settings):
        raise BadSetting("not a setting of the book")


def check_function(book, function):
    """Raise BadFunction if this is not the number of a function of the book."""
    if not is_below(function, len(book.functions)):
        raise BadFunction("not the number of a function of the book")


def check_body(book, function, body):
    """Raise BadBody if this is not the number of a body of the function, which is one of the book."""
    if not is_below(body, len(book.functions[function])):
        raise BadBody("not the number of a body of the function")


def check_number(book, number):
    """Raise BadNumber if this is not a number of the book."""
    if not is_below(number, book.base):
        raise BadNumber("not a number of the book")
