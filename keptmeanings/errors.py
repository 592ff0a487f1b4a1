"""The errors of the package: one class for each condition that an argument can violate.

No message shows an argument: it may be of any kind, and too long or too deep to be written out.
"""


class MeaningError(ValueError):
    """An argument is not as the document asks, or what is asked for cannot be done."""


class BadForm(MeaningError):
    """Not a form."""


class BadNumber(MeaningError):
    """Not a number that may stand there."""


class BadBook(MeaningError):
    """Not a book: part names the first of its parts that is wrong, or is None."""

    def __init__(self, part=None):
        super().__init__("not a book, or a part of a book is wrong")
        self.part = part


class BadWording(MeaningError):
    """Not a wording of the book."""


class BadSetting(MeaningError):
    """Not a setting of the book, or not one that may do this."""


class BadFunction(MeaningError):
    """Not the number of a function of the book."""


class BadBody(MeaningError):
    """Not the number of a body of the function."""


class BadPlan(MeaningError):
    """Not a plan: part names the first of its parts that is wrong, or is None."""

    def __init__(self, part=None):
        super().__init__("not a plan, or a part of a plan is wrong")
        self.part = part


class BadThing(MeaningError):
    """Not the number of a thing of the plan, or not of one that can be asked this."""


class BadRow(MeaningError):
    """Not a row of the plan."""


class BadState(MeaningError):
    """Not a state of the plan."""


class BadDeed(MeaningError):
    """Not a deed of what it is done to."""


class BadHistory(MeaningError):
    """Not a history: index is that of the first wrong deed, or None if it is no list or too long."""

    def __init__(self, index=None):
        super().__init__("not a history of the plan")
        self.index = index


class BadAsk(MeaningError):
    """Not an ask of the plan."""


class BadFree(MeaningError):
    """Not functions of the book, or not a function that can be redefined."""


class TooLarge(MeaningError):
    """More comes about than is looked at."""


class BadStand(MeaningError):
    """Not a stand of the plan."""


class BadPrices(MeaningError):
    """Not prices for the things of the plan."""


class BadPlaces(MeaningError):
    """Not places of the thing."""


class BadCouple(MeaningError):
    """Not a couple of the plan."""


class NoRow(MeaningError):
    """No row with this number is there."""


class Refused(MeaningError):
    """The row does not pass."""


class NothingDone(MeaningError):
    """There is nothing that can be undone."""


class BadText(MeaningError):
    """Not a text that can be read: row is the number of the first wrong line, or None."""

    def __init__(self, row=None):
        super().__init__("not a text that can be read")
        self.row = row


class BadForget(MeaningError):
    """Not a rule of forgetting for the book."""


class BadScene(MeaningError):
    """Not a scene of the plan."""


class BadRun(MeaningError):
    """Not a run: index is that of the first wrong deed, or None if it is no list or too long."""

    def __init__(self, index=None):
        super().__init__("not a run of the plan")
        self.index = index
