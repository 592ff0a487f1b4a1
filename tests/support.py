"""What several tests use: values of wrong kinds, and the points [2] and [3] written out plainly."""

from itertools import product


class Plain:
    """An object of another class."""


class Hostile:
    """An object that can be neither compared nor hashed nor tested nor measured."""

    def __eq__(self, other):
        raise RuntimeError("compared")

    def __hash__(self):
        raise RuntimeError("hashed")

    def __bool__(self):
        raise RuntimeError("tested")

    def __len__(self):
        raise RuntimeError("measured")

    def __index__(self):
        raise RuntimeError("counted")


class Agreeing:
    """An object that says that it is equal to everything."""

    def __eq__(self, other):
        return True

    __hash__ = None


def deep(word, times):
    value = ()
    for _ in range(times):
        value = (*word, value)
    return value


def deep_list(times):
    value = []
    for _ in range(times):
        value = [value]
    return value


def holding_itself():
    value = []
    value.append(value)
    return value


def made_wrong():
    return [
        None, True, False, -1, 4, 10 ** 5000, -10 ** 5000, "", "0", "number", "given", b"", b"1", (), (None,), (True,),
        (False, False), ("number",), ("number", True), ("0",), ((),), ((0,),), (((0,),),), (0, 0, 0, 0), (-1,), (9, 9),
        [], [0], [0, 0], ["number", 1], ["given"], [("given",)], {}, {0: 0}, {"number": 1}, set(), {0}, frozenset(),
        range(2), slice(0, 1), iter([0]), (n for n in (0, 1)), object(), Plain(), Hostile(), Agreeing(), (Hostile(),),
        (Hostile(), Hostile()), (Agreeing(),), ("number", Hostile()), ("number", Agreeing()), (Agreeing(), 1),
        ([],), ([], []), int, len, lambda: 0, NotImplemented, ..., ValueError("x"), bytearray(b"1"), 1j, deep((), 50000),
        deep(("call", 0), 50000), deep(("sum", ("given",)), 50000), deep((0,), 50000), deep_list(50000),
        holding_itself(), (holding_itself(),),
    ]


MADE_WRONG = made_wrong()


def wrong_values():
    """Values that are nothing of what the package asks for: no number, no form, no wording, no book."""
    return list(MADE_WRONG)


WORDS_OF_TWO = ("sum", "less", "times", "same")
LIMITS = {"number": 3, "column": 2, "kept": 2}


def is_int_below(value, limit):
    return isinstance(value, int) and not isinstance(value, bool) and 0 <= value < limit


def size_as_told(tree):
    """How many forms stand in a tree that is not deep, None if it is none: point [2], without the limit of twelve."""
    if not isinstance(tree, tuple) or not tree or not isinstance(tree[0], str):
        return None
    word, rest = tree[0], tree[1:]
    if word in ("given", "setting"):
        return 1 if not rest else None
    if word in LIMITS:
        return 1 if len(rest) == 1 and is_int_below(rest[0], LIMITS[word]) else None
    if word == "call":
        if len(rest) != 2 or not is_int_below(rest[0], 3):
            return None
        rest = rest[1:]
    elif len(rest) != {"when": 3}.get(word, 2) or word not in (*WORDS_OF_TWO, "when"):
        return None
    sizes = [size_as_told(one) for one in rest]
    return None if None in sizes else 1 + sum(sizes)


def words_in(tree):
    """The words of all forms that stand in a tree."""
    found = [tree[0]]
    for part in tree[1:]:
        found += words_in(part) if isinstance(part, tuple) else []
    return found


def told_as_told(base, bodies, setting, function, number):
    """What a function tells, point [3]: bodies are the trees of the bodies that the functions have now."""
    def come(tree):
        word = tree[0]
        if word == "number":
            return tree[1]
        if word == "given":
            return number
        if word == "setting":
            return setting
        if word == "call":
            return told_as_told(base, bodies, setting, tree[1], come(tree[2]))
        if word == "when":
            return come(tree[3]) if come(tree[1]) == 0 else come(tree[2])
        one, other = come(tree[1]), come(tree[2])
        if word == "same":
            return int(one == other)
        return {"sum": one + other, "less": one - other, "times": one * other}[word] % base
    return come(bodies[function])


def trees_to(most, leaves, calls):
    """All trees in which at most this many forms stand, over these leaves and calls of these functions."""
    by_size = {1: list(leaves)}
    for size in range(2, most + 1):
        found = [("call", k, tree) for k in calls for tree in by_size[size - 1]]
        for first in range(1, size - 1):
            for word, one, other in product(WORDS_OF_TWO, by_size[first], by_size[size - 1 - first]):
                found.append((word, one, other))
        for first, second in product(range(1, size - 2), repeat=2):
            if first + second < size - 1:
                third = by_size[size - 1 - first - second]
                found += [("when", *three) for three in product(by_size[first], by_size[second], third)]
        by_size[size] = found
    return [tree for size in sorted(by_size) for tree in by_size[size]]


def assert_errors_in_order(case, function, good, checks):
    """Each argument of a call that is checked, wrong alone and with any later ones, raises its own error.

    The checks are triples of the place of an argument, its error and its wrong values, as the document orders them.
    """
    function(*good)
    for at, (place, error, values) in enumerate(checks):
        for later in product((False, True), repeat=len(checks) - at - 1):
            for value in values:
                arguments = list(good)
                arguments[place] = value
                for wrong, (other, _, others) in zip(later, checks[at + 1:]):
                    arguments[other] = others[0] if wrong else arguments[other]
                with case.assertRaises(error) as caught:
                    function(*arguments)
                case.assertIs(caught.exception.__class__, error)


def assert_equal_by_attributes(case, made):
    """Objects that are made of pairs of a class and what it takes, all of them unlike, are equal if made alike."""
    for (at, (kind, parts)), (place, (other, others)) in product(enumerate(made), repeat=2):
        case.assertIs(kind(*parts) == other(*others), at == place)
        case.assertIs(kind(*parts) != other(*others), at != place)


def assert_no_other_equal(case, objects, others):
    """No object is equal to any of the others, which are of other classes."""
    for one, other in product(objects, [*others, None, 0, [], (), {}, Plain(), Plain]):
        case.assertIs(one == other, False)
        case.assertIs(other == one, False)
        case.assertIs(one != other, True)
