"""Forms: what a body of a function, or a thing of a plan, comes to a number by."""

from keptmeanings.checks import is_below
from keptmeanings.errors import BadForm, BadNumber
from keptmeanings.trees import LIMITS, forms_in, numbers_after


class Form:
    """A form, made from its tree; it never changes."""

    def __init__(self, tree):
        if forms_in(tree) is None:
            raise BadForm("not a form, or one in which more than twelve forms stand")
        self.tree = tree

    @classmethod
    def number(cls, n):
        """The form of a number from 0 to 2."""
        check_limit("number", n)
        return cls(("number", n))

    @classmethod
    def column(cls, c):
        """The form of what the row has in a column."""
        check_limit("column", c)
        return cls(("column", c))

    @classmethod
    def kept(cls, t):
        """The form of the kept number of a thing."""
        check_limit("kept", t)
        return cls(("kept", t))

    @staticmethod
    def given():
        """The form of the number that a function is called for."""
        return Form(("given",))

    @staticmethod
    def setting():
        """The form of the setting of the session."""
        return Form(("setting",))

    @property
    def calls(self):
        """The ascending tuple of the functions that it calls."""
        return numbers_after(self.tree, "call")

    @property
    def columns(self):
        """The ascending tuple of the columns that stand in it."""
        return numbers_after(self.tree, "column")

    @property
    def reads(self):
        """The ascending tuple of the things whose kept numbers stand in it."""
        return numbers_after(self.tree, "kept")

    def same(self, other):
        """The form that comes to 1 where both come to the same, otherwise to 0."""
        return Form(("same", self.tree, tree_of(other)))

    def then(self, one, other):
        """The form that comes to what one comes to where this does not come to 0, otherwise to the other."""
        return Form(("when", self.tree, tree_of(one), tree_of(other)))

    def by(self, k):
        """The form of a call of the function k for what this comes to."""
        check_limit("call", k)
        return Form(("call", k, self.tree))

    def __add__(self, other):
        return Form(("sum", self.tree, tree_of(other)))

    def __radd__(self, other):
        return Form(("sum", tree_of(other), self.tree))

    def __sub__(self, other):
        return Form(("less", self.tree, tree_of(other)))

    def __rsub__(self, other):
        return Form(("less", tree_of(other), self.tree))

    def __mul__(self, other):
        return Form(("times", self.tree, tree_of(other)))

    def __rmul__(self, other):
        return Form(("times", tree_of(other), self.tree))

    def __neg__(self):
        return 0 - self

    def __contains__(self, word):
        # Only texts are compared: a value of another kind may compare itself in its own way, or not at all.
        return isinstance(word, str) and word in [one[0] for one in forms_in(self.tree)]

    def __len__(self):
        return len(forms_in(self.tree))

    def __eq__(self, other):
        return isinstance(other, Form) and self.tree == other.tree


def check_limit(word, number):
    """Raise BadNumber if the number cannot follow the word."""
    if not is_below(number, LIMITS[word]):
        raise BadNumber("no such number")


def tree_of(operand):
    """The tree of a Form, or of the number that stands for its form.

    Of anything else, it is a tree that is no form, so that the Form in which it is to stand is refused.
    """
    return operand.tree if isinstance(operand, Form) else ("number", operand)
