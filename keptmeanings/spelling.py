"""Spelling: how forms are written, and which form a text writes."""

from keptmeanings.forms import Form
from keptmeanings.trees import forms_in

# Each of the at most twelve forms that stand in one adds at most four signs to its text, as in f0(..) and (..?..:..).
MOST_SIGNS = 48

SIGNS = {"sum": "+", "less": "-", "times": "*", "same": "="}
WORDS = {"+": "sum", "-": "less", "*": "times", "=": "same"}

# The forms in which no others stand, by how they are written.
LEAVES = {
    "0": ("number", 0),
    "1": ("number", 1),
    "2": ("number", 2),
    "g": ("given",),
    "s": ("setting",),
    "c0": ("column", 0),
    "c1": ("column", 1),
    "k0": ("kept", 0),
    "k1": ("kept", 1),
}
CALLS = {"f0(": 0, "f1(": 1, "f2(": 2}


def spelled(tree):
    """The text of a form."""
    word = tree[0]
    if word == "call":
        return f"f{tree[1]}({spelled(tree[2])})"
    if word == "when":
        return f"({spelled(tree[1])}?{spelled(tree[2])}:{spelled(tree[3])})"
    if word in SIGNS:
        return f"({spelled(tree[1])}{SIGNS[word]}{spelled(tree[2])})"
    return [text for text in LEAVES if LEAVES[text] == tree][0]


def form_in(text):
    """The Form that a text writes, None if it writes none."""
    # Only texts that can be those of forms are gone down into: another one may be too deep for that.
    found = tree_at(text, 0) if len(text) <= MOST_SIGNS else None
    if found is None or found[1] != len(text) or forms_in(found[0]) is None:
        return None
    return Form(found[0])


def tree_at(text, at):
    """The pair of the tree that is written from a place on and the place behind it, None if none is written there."""
    for sign in (text[at:at + 1], text[at:at + 2]):
        if sign in LEAVES:
            return (LEAVES[sign], at + len(sign))
    if text[at:at + 3] in CALLS:
        found = closed_at(text, at + 3)
        return (("call", CALLS[text[at:at + 3]], found[0]), found[1]) if found is not None else None
    if text[at:at + 1] != "(":
        return None
    first = tree_at(text, at + 1)
    if first is None:
        return None
    one, behind = first
    sign = text[behind:behind + 1]
    if sign == "?":
        return choice_at(text, behind + 1, one)
    other = closed_at(text, behind + 1) if sign in WORDS else None
    return ((WORDS[sign], one, other[0]), other[1]) if other is not None else None


def closed_at(text, at):
    """The pair of the tree that is written from a place on, and the place behind the bracket closing it, or None."""
    found = tree_at(text, at)
    return (found[0], found[1] + 1) if found is not None and text[found[1]:found[1] + 1] == ")" else None


def choice_at(text, at, test):
    """The pair of the tree of a choice by a test, written from behind its question mark on, and the place behind it."""
    one = tree_at(text, at)
    if one is None or text[one[1]:one[1] + 1] != ":":
        return None
    other = closed_at(text, one[1] + 1)
    return (("when", test, one[0], other[0]), other[1]) if other is not None else None
