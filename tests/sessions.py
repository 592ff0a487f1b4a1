"""The points [15] and [16], read a second time, and plans and rules to go through."""

from itertools import combinations, product
from random import Random

from keptmeanings.books import Book
from keptmeanings.forms import Form
from keptmeanings.plans import Plan
from tests.reading import Reading
from tests.samples import G, S, X, few_plans, made_plans
from tests.support import told_as_told


class SessionReading(Reading):
    """What the document says of one plan, of a session with a setting, and of a rule of forgetting."""

    def __init__(self, plan, setting, rule):
        super().__init__(plan)
        self.setting, self.rule = setting, rule
        self.start = (self.first[0], tuple((None,) * self.base for _ in self.functions))

    def meant(self, wording, function, number):
        bodies = [trees[body] for trees, body in zip(self.functions, wording)]
        return told_as_told(self.base, bodies, self.setting, function, number)

    def scene_deeds(self):
        asks = [("ask", k, n) for k, n in product(range(len(self.functions)), range(self.base))]
        return asks + [("put", k, body) for k in self.free for body in range(len(self.functions[k]))]

    def call(self, wording, memory, function, number):
        """What a call tells; the memory is a dict from functions and numbers to numbers, and grows by it."""
        if (function, number) in memory:
            return memory[(function, number)]

        def come(tree):
            word, rest = tree[0], tree[1:]
            if word == "number":
                return rest[0]
            if word == "given":
                return number
            if word == "setting":
                return self.setting
            if word == "call":
                return self.call(wording, memory, rest[0], come(rest[1]))
            if word == "when":
                return come(rest[2]) if come(rest[0]) == 0 else come(rest[1])
            one, other = come(rest[0]), come(rest[1])
            if word == "same":
                return int(one == other)
            return {"sum": one + other, "less": one - other, "times": one * other}[word] % self.base

        memory[(function, number)] = come(self.functions[function][wording[function]])
        return memory[(function, number)]

    def scene_after(self, scene, deed):
        wording, remembered = scene
        memory = {(k, n): told for k, numbers in enumerate(remembered) for n,
                  told in enumerate(numbers) if told is not None}
        told = None
        if deed[0] == "ask":
            told = self.call(wording, memory, deed[1], deed[2])
        else:
            wording = tuple(deed[2] if k == deed[1] else body for k, body in enumerate(wording))
            memory = {(k, n): number for (k, n), number in memory.items() if (deed[1], k) not in self.rule}
        after = tuple(tuple(memory.get((k, n)) for n in range(self.base)) for k in range(len(self.functions)))
        return (wording, after), told

    def is_stale(self, scene, deed):
        return deed[0] == "ask" and self.scene_after(scene, deed)[1] != self.meant(scene[0], deed[1], deed[2])

    def scene_levels(self, most):
        """The scenes that come about, by the least number of deeds; at least so many that there are more than most."""
        seen, levels = {self.start}, [[self.start]]
        while levels[-1] and len(seen) <= most:
            following = {self.scene_after(scene, deed)[0] for scene in levels[-1] for deed in self.scene_deeds()}
            levels.append(sorted(following - seen, key=repr))
            seen |= following
        return levels

    def scenes(self, most=400):
        return [scene for level in self.scene_levels(most) for scene in level]

    def soonest_stale(self):
        for many, level in enumerate(self.scene_levels(400)):
            if any(self.is_stale(scene, deed) for scene in level for deed in self.scene_deeds()):
                return many + 1
        return None

    def closed(self, scenes):
        """Whether a list of scenes is what a Fresh has."""
        listed = set(scenes)
        return (self.start in listed
                and not any(self.is_stale(scene, deed) for scene in listed for deed in self.scene_deeds())
                and all(self.scene_after(scene, deed)[0] in listed for scene in listed
                        for deed in self.scene_deeds()))

    def stale_at_last(self, run):
        """Whether a list is a run whose last deed is a stale ask."""
        scene, stale = self.start, False
        for deed in run:
            if deed not in self.scene_deeds():
                return False
            stale, scene = self.is_stale(scene, deed), self.scene_after(scene, deed)[0]
        return stale and len(run) <= 100

    def reasons(self):
        """A dict from pairs of functions, the first one free, to all triples for which the rule needs them, if any."""
        within = [wording for wording in self.wordings()
                  if all(wording[k] == 0 for k in range(len(wording)) if k not in self.free)]
        found = {}
        for one, other in product(self.free, range(len(self.functions))):
            for wording, body, n in product(within, range(len(self.functions[one])), range(self.base)):
                after = tuple(body if k == one else old for k, old in enumerate(wording))
                if self.meant(wording, other, n) != self.meant(after, other, n):
                    found.setdefault((one, other), []).append((wording, body, n))
        return found


def pairs_of(plan):
    """All pairs of functions, in order."""
    return list(product(range(len(plan.book)), repeat=2))


def rules_of(plan, random, many):
    """Some rules of forgetting: the empty one, the one with all pairs, and others."""
    pairs = pairs_of(plan)
    some = [tuple(pair for pair in pairs if random.random() < 0.6) for _ in range(many)]
    return [(), tuple(pairs), *some]


def all_rules(plan):
    """All rules of forgetting of a plan with few functions."""
    pairs = pairs_of(plan)
    return [rule for many in range(len(pairs) + 1) for rule in combinations(pairs, many)]


def telling_plans():
    """Plans whose functions call one another, with few scenes."""
    two = Book(2, 2, ((G, 1 - G), (G.by(0), G)))
    things = (("kept", X),)
    books = [
        two,
        Book(2, 1, ((G, 1 - G), (G.by(0),), (G.by(1) * 0, G))),
        Book(2, 2, ((G, G + S), (G.then(G.by(0), S), G.by(0)))),
        Book(2, 1, ((G, G * 0), (G * 0, G.then(G.by(0), 0)))),
        Book(2, 2, ((G, S), (G.by(0) + G.by(0), G.by(0).by(0)))),
        Book(2, 1, ((G, 1 - G), (G,), (G.by(0).then(G.by(1), 1), 1 - G.by(1)))),
        Book(3, 1, ((G, G + 1, G * 2),)),
        Book(3, 3, ((G + S, G), (G.by(0) * 0,))),
    ]
    return ([Plan(book, 1, things) for book in books]
            + [Plan(two, 1, things, free=(0,)), Plan(two, 1, things, free=(1,)), Plan(two, 1, things, free=())])


def session_plans():
    return telling_plans() + few_plans() + made_plans(91, 40)


def sessions(seed, many=2):
    """Triples of a plan, a setting and a rule."""
    random = Random(seed)
    return [(plan, random.randrange(plan.book.settings), rule) for plan in session_plans()
            for rule in rules_of(plan, random, many)]


def plan_of_400():
    """A plan, a setting and a rule for which exactly 400 scenes come about."""
    book = Book(3, 2, ((G, S.same(G)), (G, (G * 2).by(0))))
    return (Plan(book, 1, (("kept", X),)), 1, ((0, 0), (0, 1)))


def plan_of_401():
    """A plan, a setting and a rule for which exactly 401 scenes come about."""
    book = Book(2, 2, ((G, G * 0), (S.same(0), G.by(0)), (Form.number(1).by(1),)))
    return (Plan(book, 1, (("kept", X),)), 1, ((0, 0), (0, 1), (0, 2), (1, 2), (2, 0), (2, 1)))
