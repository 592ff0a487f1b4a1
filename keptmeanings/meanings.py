"""What the things of a plan come to, and what is there after a row is written, or a thing is built."""

from keptmeanings.reckoning import comes_to, tables_by, telling


class Meanings:
    """The numbers of a plan's things; each is reckoned once, so one object serves for many states."""

    def __init__(self, plan):
        self._plan = plan
        self._modes = [mode for mode, _ in plan.things]
        self._trees = [form.tree for _, form in plan.things]
        self._reads = [form.reads for _, form in plan.things]
        self._tables = {}
        self._numbers = {}

    @property
    def plan(self):
        """The Plan."""
        return self._plan

    def tables(self, wording, setting):
        """The list of what all functions tell, for each one a list."""
        if (wording, setting) not in self._tables:
            self._tables[(wording, setting)] = tables_by(self._plan.book, wording, setting)
        return self._tables[(wording, setting)]

    def formed(self, thing, wording, setting, row, kept):
        """What the form of a thing comes to for a row, where kept has at least the numbers of all earlier things."""
        read = tuple([kept[earlier] for earlier in self._reads[thing]])
        key = (thing, wording, setting, row, read)
        if key not in self._numbers:
            leaves = leaves_of(setting, row, kept)
            tells = telling(self.tables(wording, setting))
            self._numbers[key] = comes_to(self._trees[thing], self._plan.book.base, leaves, tells)
        return self._numbers[key]

    def plain(self, wording, setting, row):
        """The tuple of the plain numbers of all things for a row."""
        numbers = []
        for thing in range(len(self._modes)):
            numbers.append(self.formed(thing, wording, setting, row, numbers))
        return tuple(numbers)

    def passes(self, wording, setting, row):
        """Whether a row passes."""
        numbers = self.plain(wording, setting, row)
        return all([number != 0 for mode, number in zip(self._modes, numbers) if mode == "check"])

    def written(self, wording, setting, row):
        """The pair of a row and its kept numbers that is there after the row is written, None if it does not pass."""
        if not self.passes(wording, setting, row):
            return None
        numbers = self.plain(wording, setting, row)
        return (row, tuple([1 if mode == "check" else number for mode, number in zip(self._modes, numbers)]))

    def built(self, wording, setting, held, thing):
        """What is there, as in written, after a thing is built where held, perhaps None, was there."""
        if held is None:
            return None
        row, kept = held
        number = self.formed(thing, wording, setting, row, kept)
        if self._modes[thing] == "check":
            return held if number != 0 else None
        return (row, kept[:thing] + (number,) + kept[thing + 1:])


def leaves_of(setting, row, kept):
    """A dict from the trees of the setting, the columns and the kept numbers to their numbers."""
    leaves = {("setting",): setting}
    for column, number in enumerate(row):
        leaves[("column", column)] = number
    for thing, number in enumerate(kept):
        leaves[("kept", thing)] = number
    return leaves
