"""Sessions: what functions tell where what they told is remembered, and forgotten by a rule when one is redefined."""

from keptmeanings.checks import is_below, is_wording
from keptmeanings.reckoning import comes_to, tables_by
from keptmeanings.rows import puts_of


class Session:
    """A session with a setting and a rule of forgetting; what functions mean is reckoned once for each wording."""

    def __init__(self, plan, setting, rule):
        self._plan = plan
        self._setting = setting
        self._rule = rule
        self._tables = {}

    def following(self, scene, deed):
        """The pair of the scene after a deed and of what is told by it, None for a put."""
        wording, memory = scene
        word, function, by = deed
        if word == "put":
            return ((self._plan.book.put(wording, function, by), self.forgetful(memory, function)), None)
        noted = [list(numbers) for numbers in memory]
        told = self.called(wording, noted, function, by)
        return ((wording, tuple([tuple(numbers) for numbers in noted])), told)

    def forgetful(self, memory, function):
        """The memory after a body of a function is put."""
        forgotten = [other for one, other in self._rule if one == function]
        nothing = (None,) * self._plan.book.base
        return tuple([nothing if k in forgotten else numbers for k, numbers in enumerate(memory)])

    def called(self, wording, noted, function, number):
        """What a function tells when it is called; this is noted, in a memory of lists, as is what its calls tell."""
        book = self._plan.book
        if noted[function][number] is None:
            tree = book.functions[function][wording[function]].tree
            leaves = {("given",): number, ("setting",): self._setting}
            noted[function][number] = comes_to(tree, book.base, leaves,
                                               lambda k, given: self.called(wording, noted, k, given))
        return noted[function][number]

    def meant(self, wording, function, number):
        """What a function tells by a wording, whatever is remembered."""
        if wording not in self._tables:
            self._tables[wording] = tables_by(self._plan.book, wording, self._setting)
        return self._tables[wording][function][number]

    def stale_asks(self, scene):
        """The list of the deeds of a scene that are asks, and stale."""
        return [deed for deed in asks_of(self._plan)
                if self.following(scene, deed)[1] != self.meant(scene[0], deed[1], deed[2])]

    def steps(self, scene):
        """The pairs of a deed of a scene and the scene after it."""
        return [(deed, self.following(scene, deed)[0]) for deed in scene_deeds(self._plan)]


def asks_of(plan):
    """The list of the deeds that ask, in order."""
    return [("ask", function, number) for function in range(len(plan.book)) for number in range(plan.book.base)]


def scene_deeds(plan):
    """The list of the deeds of a scene, in order; they are the same for all scenes of a plan."""
    return asks_of(plan) + puts_of(plan)


def is_scene(plan, value):
    """Whether a value of any kind is a scene of the plan, perhaps one that cannot come about."""
    if not isinstance(value, tuple) or len(value) != 2 or not is_wording(plan.book, value[0]):
        return False
    memory = value[1]
    if not isinstance(memory, tuple) or len(memory) != len(plan.book):
        return False
    return all([is_remembered(plan.book, numbers) for numbers in memory])


def is_remembered(book, value):
    """Whether a value of any kind can be what is remembered of one function."""
    if not isinstance(value, tuple) or len(value) != book.base:
        return False
    return all([number is None or is_below(number, book.base) for number in value])
