"""The trees of forms: tuples, in which the first item is a word that tells what follows it."""

from keptmeanings.checks import is_below

MOST_FORMS = 12

# For each word, how many items its tuple has, and how many of them stand before the forms in it.
SHAPES = {
    "number": (2, 2),
    "given": (1, 1),
    "setting": (1, 1),
    "column": (2, 2),
    "kept": (2, 2),
    "call": (3, 2),
    "sum": (3, 1),
    "less": (3, 1),
    "times": (3, 1),
    "same": (3, 1),
    "when": (4, 1),
}

# For each word that a number follows, the limit that it is below.
LIMITS = {"number": 3, "column": 2, "kept": 2, "call": 3}


def has_shape(tree):
    """Whether a value of any kind begins as a form does; the forms in it are not looked at."""
    if not isinstance(tree, tuple) or len(tree) == 0 or not isinstance(tree[0], str):
        return False
    word = tree[0]
    if word not in SHAPES or len(tree) != SHAPES[word][0]:
        return False
    return word not in LIMITS or is_below(tree[1], LIMITS[word])


def forms_in(tree):
    """The trees of all forms that stand in a form, itself first, each as often as it stands there.

    None if the value, which may be of any kind, is not a form.
    """
    standing = [tree]
    at = 0
    # The trees are listed instead of gone down into: a tree that is no form may be too deep for that.
    while at < len(standing):
        one = standing[at]
        if len(standing) > MOST_FORMS or not has_shape(one):
            return None
        standing.extend(one[SHAPES[one[0]][1]:])
        at += 1
    return standing


def numbers_after(tree, word):
    """The ascending tuple of the numbers that follow a word anywhere in a form."""
    return tuple(sorted({one[1] for one in forms_in(tree) if one[0] == word}))
