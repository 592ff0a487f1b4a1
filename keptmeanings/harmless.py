"""Harmless redefinitions: which of them change what a thing comes to, and on which functions a thing leans."""

from keptmeanings.checks import check_body, check_function, check_thing, check_wording, is_below, is_place
from keptmeanings.meanings import Meanings
from keptmeanings.plans import check_plan


class Harmless:
    """That a redefinition does not harm a thing: a dict from all pairs of a row and an asker to pairs of numbers."""

    def __init__(self, pairs):
        self.pairs = {place: pairs[place] for place in pairs}

    def shows(self, plan, wording, function, body, thing):
        """Whether these are the plain numbers before and after the redefinition, and none of them is harmed."""
        check_redefinition(plan, wording, function, body)
        check_thing(plan, thing)
        # A boolean in a pair would be equal to a number that is found below.
        if not all([is_place(plan, place) and is_pair(plan.book, self.pairs[place]) for place in self.pairs]):
            return False
        numbers = numbers_of(Meanings(plan), wording, plan.book.put(wording, function, body), thing)
        return self.pairs == numbers and first_harmed(plan, numbers, thing) is None

    def __eq__(self, other):
        return isinstance(other, Harmless) and self.pairs == other.pairs


class Harmful:
    """That a redefinition harms a thing: a row and an asker at which it does."""

    def __init__(self, row, asker):
        self.row = row
        self.asker = asker

    def shows(self, plan, wording, function, body, thing):
        """Whether the redefinition harms the thing at the row and the asker."""
        check_redefinition(plan, wording, function, body)
        check_thing(plan, thing)
        place = (self.row, self.asker)
        if not is_place(plan, place):
            return False
        numbers = numbers_of(Meanings(plan), wording, plan.book.put(wording, function, body), thing)
        return is_harmed(plan.things[thing][0], numbers[place])

    def __eq__(self, other):
        return isinstance(other, Harmful) and self.row == other.row and self.asker == other.asker


def weigh(plan, wording, function, body, thing):
    """A Harmless, or a Harmful with the first row and asker at which the redefinition harms the thing."""
    check_redefinition(plan, wording, function, body)
    check_thing(plan, thing)
    numbers = numbers_of(Meanings(plan), wording, plan.book.put(wording, function, body), thing)
    place = first_harmed(plan, numbers, thing)
    return Harmless(numbers) if place is None else Harmful(place[0], place[1])


def harmless_things(plan, wording, function, body):
    """The ascending list of the things that a redefinition does not harm."""
    check_redefinition(plan, wording, function, body)
    meanings = Meanings(plan)
    after = plan.book.put(wording, function, body)
    return [thing for thing in range(len(plan)) if not harms(meanings, wording, after, thing)]


def leans(plan):
    """The list of all pairs of a thing and a function on which it leans, in order."""
    check_plan(plan)
    meanings = Meanings(plan)
    pairs = [(thing, function) for thing in range(len(plan)) for function in range(len(plan.book))]
    return [(thing, function) for thing, function in pairs if leans_on(meanings, thing, function)]


def leans_on(meanings, thing, function):
    """Whether some redefinition of the function harms the thing."""
    book = meanings.plan.book
    for wording in book.wordings():
        for body in range(len(book.functions[function])):
            if harms(meanings, wording, book.put(wording, function, body), thing):
                return True
    return False


def harms(meanings, wording, after, thing):
    """Whether the thing is harmed anywhere when the wording is another one, after it."""
    return first_harmed(meanings.plan, numbers_of(meanings, wording, after, thing), thing) is not None


def numbers_of(meanings, wording, after, thing):
    """A dict from all pairs of a row and an asker, in order, to the plain numbers of a thing by both wordings."""
    numbers = {}
    for row in meanings.plan.rows():
        for asker in meanings.plan.askers:
            one = meanings.plain(wording, asker, row)[thing]
            numbers[(row, asker)] = (one, meanings.plain(after, asker, row)[thing])
    return numbers


def first_harmed(plan, numbers, thing):
    """The first pair of a row and an asker at which the numbers of a thing are harmed, None if there is none."""
    harmed = [place for place in numbers if is_harmed(plan.things[thing][0], numbers[place])]
    return harmed[0] if harmed != [] else None


def is_harmed(mode, pair):
    """Whether a thing with this mode is harmed where it has these plain numbers before and after."""
    before, after = pair
    if mode == "check":
        return before != 0 and after == 0
    return before != after


def is_pair(book, value):
    """Whether a value of any kind is a pair of numbers of the book."""
    return isinstance(value, tuple) and len(value) == 2 and all([is_below(number, book.base) for number in value])


def check_redefinition(plan, wording, function, body):
    """Raise the error of the first argument that is wrong."""
    check_plan(plan)
    check_wording(plan.book, wording)
    check_function(plan.book, function)
    check_body(plan.book, function, body)
