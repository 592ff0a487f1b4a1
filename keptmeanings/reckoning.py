"""What forms come to, and what functions tell by a wording and a setting."""


def combined(word, one, other, base):
    """What a sum, a difference, a product or a comparison of two numbers comes to."""
    if word == "sum":
        return (one + other) % base
    if word == "less":
        return (one - other) % base
    if word == "times":
        return (one * other) % base
    return 1 if one == other else 0


def comes_to(tree, base, leaves, tells):
    """The number that a form comes to.

    The leaves are a dict from the trees of given, setting, columns and kept numbers to their numbers;
    tells is a function that tells what a function, by its number, tells for a number.
    """
    word = tree[0]
    if word == "number":
        return tree[1]
    if word == "call":
        return tells(tree[1], comes_to(tree[2], base, leaves, tells))
    if word == "when":
        test = comes_to(tree[1], base, leaves, tells)
        return comes_to(tree[2] if test != 0 else tree[3], base, leaves, tells)
    if word in ("sum", "less", "times", "same"):
        one = comes_to(tree[1], base, leaves, tells)
        return combined(word, one, comes_to(tree[2], base, leaves, tells), base)
    return leaves[tree]


def tables_by(book, wording, setting):
    """The list of what all functions tell: for each one, the list of what it tells for all numbers."""
    base = book.base
    tables = []
    # A body calls only earlier functions, so their tables are there when it is gone through.
    for bodies, body in zip(book.functions, wording):
        tree = bodies[body].tree
        tables.append([comes_to(tree, base, {("given",): number, ("setting",): setting}, telling(tables))
                       for number in range(base)])
    return tables


def telling(tables):
    """The function that tells what a function tells for a number, by the tables."""
    return lambda function, number: tables[function][number]
