"""Remembering: whether a session that remembers what functions told ever tells what they do not tell any more."""

from keptmeanings.checks import check_rule, check_setting, is_among
from keptmeanings.errors import BadDeed, BadRun, BadScene
from keptmeanings.plans import check_plan
from keptmeanings.rows import MOST_DEEDS
from keptmeanings.sessions import Session, is_scene, scene_deeds
from keptmeanings.ways import deeds_to, ways_from

MOST_SCENES = 400


class Fresh:
    """That no ask is ever stale: a list of scenes that no deed leads out of, in none of which an ask is stale."""

    def __init__(self, scenes):
        self.scenes = list(scenes)

    def shows(self, plan, setting, rule):
        """Whether the scenes are such a list for the setting and the rule."""
        check_recalled(plan, setting, rule)
        if not all([is_scene(plan, scene) for scene in self.scenes]):
            return False
        listed = {scene: True for scene in self.scenes}
        if first_scene(plan) not in listed:
            return False
        session = Session(plan, setting, rule)
        for scene in listed:
            if session.stale_asks(scene) != []:
                return False
            if not all([following in listed for _, following in session.steps(scene)]):
                return False
        return True

    def __eq__(self, other):
        return isinstance(other, Fresh) and self.scenes == other.scenes


class Stale:
    """That an ask is stale: a run whose last deed is one that is."""

    def __init__(self, deeds):
        self.deeds = list(deeds)

    def shows(self, plan, setting, rule):
        """Whether the deeds are a run whose last one is a stale ask."""
        check_recalled(plan, setting, rule)
        session = Session(plan, setting, rule)
        try:
            steps = steps_along(plan, session, self.deeds)
        except BadRun:
            return False
        return steps != [] and self.deeds[-1] in session.stale_asks(steps[-1][0])

    def __eq__(self, other):
        return isinstance(other, Stale) and self.deeds == other.deeds


def first_scene(plan):
    """The first scene: the first wording, and nothing that is remembered."""
    check_plan(plan)
    return ((0,) * len(plan.book), ((None,) * plan.book.base,) * len(plan.book))


def scene_after(plan, setting, rule, scene, deed):
    """The pair of the scene after a deed, and of what is told by it, None for a put."""
    check_recalled(plan, setting, rule)
    if not is_scene(plan, scene):
        raise BadScene("a scene is a pair of a wording and a memory")
    if not is_among(deed, scene_deeds(plan)):
        raise BadDeed("not a deed of the scene")
    return Session(plan, setting, rule).following(scene, deed)


def told_along(plan, setting, rule, run):
    """The list of what is told by the deeds of a run, None for each put."""
    check_recalled(plan, setting, rule)
    return [told for _, told in steps_along(plan, Session(plan, setting, rule), run)]


def recall(plan, setting, rule):
    """A Fresh, or a Stale with a run of as few deeds as possible."""
    check_recalled(plan, setting, rule)
    session = Session(plan, setting, rule)
    ways = ways_from(first_scene(plan), lambda scene: session.steps(scene), MOST_SCENES)
    # The scenes stand in the order of how soon they come about, so the first stale ask is a soonest one.
    for scene in ways:
        stale = session.stale_asks(scene)
        if stale != []:
            return Stale(deeds_to(ways, scene) + stale[:1])
    return Fresh(list(ways))


def is_fresh(plan, setting, rule):
    """Whether no ask is ever stale."""
    return isinstance(recall(plan, setting, rule), Fresh)


def soonest_stale(plan, setting, rule):
    """The least number of deeds of a run whose last one is a stale ask, None if no ask is ever stale."""
    recalled = recall(plan, setting, rule)
    return len(recalled.deeds) if isinstance(recalled, Stale) else None


def steps_along(plan, session, run):
    """For each deed of a run, the pair of the scene before it and what it tells; raise BadRun if this is no run."""
    if not isinstance(run, (list, tuple)) or len(run) > MOST_DEEDS:
        raise BadRun(None)
    scene = first_scene(plan)
    steps = []
    for index, deed in enumerate(run):
        if not is_among(deed, scene_deeds(plan)):
            raise BadRun(index)
        following, told = session.following(scene, deed)
        steps.append((scene, told))
        scene = following
    return steps


def check_recalled(plan, setting, rule):
    """Raise the error of the first argument that is wrong."""
    check_plan(plan)
    check_setting(plan.book, setting)
    check_rule(plan.book, rule)
