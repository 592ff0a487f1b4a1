"""What the functions and methods of the package ask of their arguments."""

from keptmeanings.errors import (BadBody, BadForget, BadFunction, BadNumber, BadRow, BadSetting, BadThing,
                                 BadWording)


def is_whole(value):
    """Whether a value of any kind is an integer; booleans are none."""
    return isinstance(value, int) and not isinstance(value, bool)


def is_below(value, limit):
    """Whether a value of any kind is an integer from 0 to below the limit."""
    return is_whole(value) and 0 <= value < limit


def is_one_of(value, numbers):
    """Whether a value of any kind is one of these integers."""
    return is_whole(value) and value in numbers


def is_wording(book, value):
    """Whether a value of any kind is a wording of the book."""
    if not isinstance(value, tuple) or len(value) != len(book.functions):
        return False
    return all([is_below(body, len(bodies)) for body, bodies in zip(value, book.functions)])


def is_row(plan, value):
    """Whether a value of any kind is a row of the plan."""
    if not isinstance(value, tuple) or len(value) != plan.columns:
        return False
    return all([is_below(number, plan.book.base) for number in value])


def is_place(plan, value):
    """Whether a value of any kind is a pair of a row and an asker of the plan."""
    if not isinstance(value, tuple) or len(value) != 2:
        return False
    return is_row(plan, value[0]) and is_one_of(value[1], plan.askers)


def is_pair_of_functions(book, value):
    """Whether a value of any kind is a pair of functions of the book, which may be the same."""
    return isinstance(value, tuple) and len(value) == 2 and all([is_below(k, len(book.functions)) for k in value])


def is_rule(book, value):
    """Whether a value of any kind is a rule of forgetting for the book."""
    if not isinstance(value, tuple) or not all([is_pair_of_functions(book, pair) for pair in value]):
        return False
    return all([one < other for one, other in zip(value, value[1:])])


def is_among(value, deeds):
    """Whether a value of any kind is one of the deeds in a list.

    Only what is made as deeds are is compared with them: a boolean would be equal to an integer.
    """
    return isinstance(value, tuple) and all([is_part(part) for part in value]) and value in deeds


def is_part(value):
    """Whether a value of any kind is a text, an integer or a tuple of integers."""
    if isinstance(value, tuple):
        return all([is_whole(number) for number in value])
    return isinstance(value, str) or is_whole(value)


def check_wording(book, wording):
    """Raise BadWording if this is not a wording of the book."""
    if not is_wording(book, wording):
        raise BadWording("a wording is a tuple with the number of a body for each function")


def check_setting(book, setting):
    """Raise BadSetting if this is not a setting of the book."""
    if not is_below(setting, book.settings):
        raise BadSetting("not a setting of the book")


def check_function(book, function):
    """Raise BadFunction if this is not the number of a function of the book."""
    if not is_below(function, len(book.functions)):
        raise BadFunction("not the number of a function of the book")


def check_body(book, function, body):
    """Raise BadBody if this is not the number of a body of the function, which is one of the book."""
    if not is_below(body, len(book.functions[function])):
        raise BadBody("not the number of a body of the function")


def check_number(book, number):
    """Raise BadNumber if this is not a number of the book."""
    if not is_below(number, book.base):
        raise BadNumber("not a number of the book")


def check_thing(plan, thing):
    """Raise BadThing if this is not the number of a thing of the plan."""
    if not is_below(thing, len(plan.things)):
        raise BadThing("not the number of a thing of the plan")


def check_row(plan, row):
    """Raise BadRow if this is not a row of the plan."""
    if not is_row(plan, row):
        raise BadRow("a row is a tuple with a number of the book for each column")


def check_rule(book, rule):
    """Raise BadForget if this is not a rule of forgetting for the book."""
    if not is_rule(book, rule):
        raise BadForget("a rule of forgetting is an ascending tuple of pairs of functions")
