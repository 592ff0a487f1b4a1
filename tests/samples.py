"""Plans that several tests go through."""

from random import Random

from keptmeanings.books import Book
from keptmeanings.forms import Form
from keptmeanings.plans import Plan

G, S = Form.given(), Form.setting()
X, Y = Form.column(0), Form.column(1)
K, L = Form.kept(0), Form.kept(1)


def example_plan():
    """The plan of the examples of the interface: one function with two bodies, one thing of each mode."""
    x = X.by(0)
    return Plan(Book(2, 1, ((G, 1 - G),)), 1, (("kept", x), ("again", x), ("check", x)))


def mixed_plan():
    """Two functions, of which only the first is free, two columns, and things that read and that ask for the setting."""
    book = Book(2, 2, ((G, 1 - G, S), (G.by(0) * G + S,)))
    things = (("kept", X.by(1) - Y), ("again", K.by(0) + S), ("check", Y.then(1, X.by(0) + K)))
    return Plan(book, 2, things, free=(0,), writers=(1,), askers=(0, 1))


def three_plan():
    """Base 3, one column, things that read one another's kept numbers."""
    book = Book(3, 2, ((G + 1, G * G), (G.by(0) - S, G)))
    return Plan(book, 1, (("kept", X.by(0)), ("kept", K.by(1) + X), ("again", K * L + S)), free=(1,), askers=(1,))


def few_plans():
    """Plans of all modes, with free functions, writers and askers given and left out."""
    book = Book(2, 2, ((G, G + S), (1 - G.by(0),)))
    three = Book(3, 3, ((G, 1 - G, S),))
    return [
        example_plan(), mixed_plan(), three_plan(),
        Plan(book, 1, (("kept", X),)),
        Plan(book, 1, (("again", X.by(1)),), writers=(0,), askers=(1,)),
        Plan(book, 1, (("check", X.by(1)),), free=()),
        Plan(book, 1, (("check", Form.number(0)), ("kept", X))),
        Plan(book, 2, (("check", X.same(Y)), ("check", X.by(0) + Y.by(1))), free=(0,)),
        Plan(book, 1, (("kept", X.by(0)), ("kept", K), ("kept", K + L)), writers=(1,)),
        Plan(book, 1, (("kept", S), ("check", K.same(S)), ("again", K * X)), free=(1,), askers=(0,)),
        Plan(three, 1, (("kept", X.by(0)), ("check", K + 1))),
        Plan(three, 1, (("again", X.by(0)), ("kept", X * S)), writers=(0, 2), askers=(1, 2)),
        Plan(three, 1, (("check", X.by(0).then(1, S)),), free=(), writers=(2,), askers=(0,)),
    ]


def some_form(random, leaves, calls, size):
    """A form of about this size, over these leaves and calls of these functions."""
    if size <= 1:
        return random.choice(leaves)
    one, other = some_form(random, leaves, calls, size // 2), some_form(random, leaves, calls, size // 2)
    made = [one + other, one - other, one * other, one.same(other), one.then(other, random.choice(leaves))]
    made += [some_form(random, leaves, calls, size - 1).by(k) for k in calls]
    return random.choice(made)


def some_of(random, many, least):
    """An ascending tuple of at least so many of the numbers from 0 on, or None."""
    found = tuple(k for k in range(many) if random.random() < 0.7)
    return found if len(found) >= least and random.random() < 0.7 else None


def some_plan(random):
    base = random.choice((2, 2, 3))
    settings = random.randint(1, base)
    numbers = [Form.number(n) for n in range(base)]
    functions = []
    for k in range(random.randint(1, 3)):
        leaves = [G, G, S, *numbers]
        sizes = [random.randint(1, 4) for _ in range(random.randint(1, 3))]
        functions.append(tuple(some_form(random, leaves, range(k), size) for size in sizes))
    columns = random.randint(1, 2)
    cells = [X, Y][:columns]
    things = []
    for _ in range(random.randint(1, 3)):
        reads = [Form.kept(t) for t, (mode, _) in enumerate(things[:2]) if mode == "kept"]
        leaves = [S, *cells, *cells, *reads, *reads, *numbers]
        form = some_form(random, leaves, range(len(functions)), random.randint(1, 4))
        things.append((random.choice(("kept", "again", "check")), form))
    book = Book(base, settings, tuple(functions))
    return Plan(book, columns, tuple(things), free=some_of(random, len(functions), 0),
                writers=some_of(random, settings, 1), askers=some_of(random, settings, 1))


def made_plans(seed, many):
    """Plans of all kinds, the same ones at each run."""
    random = Random(seed)
    return [some_plan(random) for _ in range(many)]


def plan_of_400(steady):
    """A plan with exactly 400 states that come about; with a thing, the last one, that is steady, or without one."""
    if steady:
        book = Book(3, 3, ((G, S), (G, G), (G, 1 - G)))
        five = (X * Y).same(0)
        return Plan(book, 2, (("kept", S * five), ("again", S * five), ("check", Form.number(1))))
    some = X.then(1, Y)
    things = (("kept", S * some), ("again", S * some), ("kept", S * X.then(1, Y.same(2))))
    return Plan(Book(3, 3, ((G, 1 - G),)), 2, things)


def plan_of_402():
    """A plan with 402 states that come about; from 400 on, this is the next number that there can be."""
    some = X.then(1, Y)
    book = Book(3, 3, ((G.then(S * G.same(2), S * S),), (G, 1 - G)))
    return Plan(book, 2, (("kept", S * some), ("again", S * some), ("kept", X.then(S, Y.by(0)))))
