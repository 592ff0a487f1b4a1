"""Plain numbers: what the things of a plan come to for a row, by a wording and a setting."""

from keptmeanings.checks import check_row, check_setting, check_wording
from keptmeanings.meanings import Meanings
from keptmeanings.plans import check_plan


def plain(plan, wording, setting, row):
    """The tuple of the plain numbers of all things."""
    check_reckoned(plan, wording, setting, row)
    return Meanings(plan).plain(wording, setting, row)


def passes(plan, wording, setting, row):
    """Whether the row passes: whether the plain number of no check is 0."""
    check_reckoned(plan, wording, setting, row)
    return Meanings(plan).passes(wording, setting, row)


def check_reckoned(plan, wording, setting, row):
    """Raise the error of the first argument that is wrong."""
    check_plan(plan)
    check_wording(plan.book, wording)
    check_setting(plan.book, setting)
    check_row(plan, row)
