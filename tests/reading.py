"""The points [4] to [8], read a second time: everything is reckoned anew from the trees that a plan was made of."""

from functools import lru_cache
from itertools import product

from tests.support import told_as_told


class Reading:
    """What the document says of one plan."""

    def __init__(self, plan):
        self.base, self.settings = plan.book.base, plan.book.settings
        self.functions = [[body.tree for body in bodies] for bodies in plan.book.functions]
        self.modes = [mode for mode, _ in plan.things]
        self.trees = [form.tree for _, form in plan.things]
        self.free, self.writers, self.askers = plan.free, plan.writers, plan.askers
        self.rows = list(product(range(self.base), repeat=plan.columns))
        self.things = range(len(self.trees))
        self.first = (tuple(0 for _ in self.functions), None)
        self.plain = lru_cache(None)(self.plain_as_told)
        self.after = lru_cache(None)(self.after_as_told)

    def wordings(self):
        return list(product(*[range(len(bodies)) for bodies in self.functions]))

    def form(self, tree, wording, setting, row, kept):
        """What a form comes to; kept is a function that tells the number of an earlier thing."""
        word, rest = tree[0], tree[1:]
        if word == "number":
            return rest[0]
        if word == "setting":
            return setting
        if word == "column":
            return row[rest[0]]
        if word == "kept":
            return kept(rest[0])
        if word == "call":
            bodies = [trees[body] for trees, body in zip(self.functions, wording)]
            return told_as_told(self.base, bodies, setting, rest[0], self.form(rest[1], wording, setting, row, kept))
        numbers = [self.form(one, wording, setting, row, kept) for one in rest]
        if word == "when":
            return numbers[2] if numbers[0] == 0 else numbers[1]
        if word == "same":
            return int(numbers[0] == numbers[1])
        one, other = numbers
        return {"sum": one + other, "less": one - other, "times": one * other}[word] % self.base

    def plain_as_told(self, thing, wording, setting, row):
        return self.form(self.trees[thing], wording, setting, row, lambda t: self.plain(t, wording, setting, row))

    def passes(self, wording, setting, row):
        return 0 not in [self.plain(t, wording, setting, row) for t in self.things if self.modes[t] == "check"]

    def deeds(self, state):
        found = []
        for k in sorted(self.free):
            for body in range(len(self.functions[k])):
                found.append(("put", k, body))
        for thing in self.things:
            for writer in sorted(self.writers):
                found.append(("build", thing, writer))
        for row in self.rows:
            for writer in sorted(self.writers):
                if state[1] is None:
                    found.append(("write", row, writer))
        return found

    def after_as_told(self, state, deed):
        (wording, there), (word, what, by) = state, deed
        if word == "put":
            changed = list(wording)
            changed[what] = by
            return (tuple(changed), there)
        if word == "write":
            if not self.passes(wording, by, what):
                return (wording, None)
            kept = [1 if self.modes[t] == "check" else self.plain(t, wording, by, what) for t in self.things]
            return (wording, (what, tuple(kept)))
        if there is None:
            return state
        row, kept = there
        number = self.form(self.trees[what], wording, by, row, lambda t: kept[t])
        if self.modes[what] == "check":
            return (wording, None) if number == 0 else state
        changed = list(kept)
        changed[what] = number
        return (wording, (row, tuple(changed)))

    def asks(self):
        return list(product(self.things, range(self.base), sorted(self.askers)))

    def told(self, state, ask):
        (wording, there), (thing, number, asker) = state, ask
        if there is None:
            return (False, False)
        row, kept = there
        plain = self.plain(thing, wording, asker, row)
        by_thing = {"kept": kept[thing] == number, "again": kept[thing] == number == plain,
                    "check": plain == number and plain != 0}[self.modes[thing]]
        return (plain == number, by_thing)

    def wrong(self, state):
        """A list of pairs of an ask and its word."""
        found = []
        for ask in self.asks():
            if self.told(state, ask) == (True, False):
                found.append((ask, "lost"))
            if self.told(state, ask) == (False, True):
                found.append((ask, "extra"))
        return found

    def is_wrong(self, state, thing):
        return any(ask[0] == thing for ask, _ in self.wrong(state))

    def held(self):
        """All pairs of a row and kept numbers, also such that cannot come about."""
        numbers = [range(1, 2) if mode == "check" else range(self.base) for mode in self.modes]
        return list(product(self.rows, product(*numbers)))

    def all_states(self):
        """All states, also those that cannot come about."""
        return list(product(self.wordings(), [None, *self.held()]))

    def levels(self, most=None):
        """The states that come about, by the least number of deeds; at least so many that there are more than most."""
        seen, levels = {self.first}, [[self.first]]
        while levels[-1] and (most is None or len(seen) <= most):
            following = [self.after(state, deed) for state in levels[-1] for deed in self.deeds(state)]
            levels.append(sorted(set(following) - seen, key=repr))
            seen.update(following)
        return levels

    def about(self, most=None):
        return [state for level in self.levels(most) for state in level]

    def soonest(self, thing):
        for many, level in enumerate(self.levels()):
            if any(self.is_wrong(state, thing) for state in level):
                return many
        return None

    def closed(self, states, thing):
        """Whether a list of states is what a Steady has."""
        listed = set(states)
        return (self.first in listed and not any(self.is_wrong(state, thing) for state in listed)
                and all(self.after(state, deed) in listed for state in listed for deed in self.deeds(state)))
