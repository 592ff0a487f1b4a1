"""Roads: the cheapest way to redefine functions while rows are written, on which nothing that is asked is wrong."""

from keptmeanings.checks import check_wording, is_among, is_below, is_whole
from keptmeanings.errors import BadDeed, BadPrices, BadStand
from keptmeanings.plans import check_plan
from keptmeanings.stands import Stands, is_stand
from keptmeanings.ways import deeds_to, ways_from

MOST_STANDS = 120
MOST_PRICE = 9


class Road:
    """A road with the least price of all, and heights: what it costs at least to come to stands on cheaper ways."""

    def __init__(self, deeds, heights):
        self.deeds = list(deeds)
        self.heights = list(heights)

    def shows(self, plan, prices, wording):
        """Whether the deeds are a road to the wording, and the heights show that there is none with a lesser price."""
        check_journey(plan, prices, wording)
        if not all([is_height(plan, pair) for pair in self.heights]):
            return False
        stands = Stands(plan)
        price = price_along(plan, stands, self.deeds, prices, wording)
        if price is None or (price != 0 and (stands.first(), 0) not in self.heights):
            return False
        return are_heights(plan, stands, self.heights, prices, wording, price)

    def __eq__(self, other):
        return isinstance(other, Road) and self.deeds == other.deeds and self.heights == other.heights


class NoRoad:
    """That there is no road: a list of stands that no deed leads out of to a good one, none at the road's end."""

    def __init__(self, stands):
        self.stands = list(stands)

    def shows(self, plan, prices, wording):
        """Whether the stands are such a list for the wording."""
        check_journey(plan, prices, wording)
        if not all([is_stand(plan, stand) for stand in self.stands]):
            return False
        stands = Stands(plan)
        listed = {stand: True for stand in self.stands}
        if stands.is_fine(stands.first()) and stands.first() not in listed:
            return False
        for stand in listed:
            if is_end(plan, stand, wording) or not all([after in listed for _, after in stands.steps(stand)]):
                return False
        return True

    def __eq__(self, other):
        return isinstance(other, NoRoad) and self.stands == other.stands


def first_stand(plan):
    """The first stand."""
    check_plan(plan)
    return Stands(plan).first()


def stand_deeds(plan, stand):
    """The list of the deeds of a stand, in order."""
    check_plan(plan)
    check_stand(plan, stand)
    return Stands(plan).choices(stand)


def is_good(plan, stand):
    """Whether a stand is good."""
    check_plan(plan)
    check_stand(plan, stand)
    return Stands(plan).is_fine(stand)


def stand_after(plan, stand, deed):
    """The stand after a deed."""
    check_plan(plan)
    check_stand(plan, stand)
    stands = Stands(plan)
    if not is_among(deed, stands.choices(stand)):
        raise BadDeed("not a deed of the stand")
    return stands.following(stand, deed)


def road(plan, prices, wording):
    """A Road to a wording, or a NoRoad."""
    check_journey(plan, prices, wording)
    stands = Stands(plan)
    first = stands.first()
    if not stands.is_fine(first):
        return NoRoad([])
    found = list(ways_from(first, lambda stand: stands.steps(stand), MOST_STANDS))
    ends = [stand for stand in found if is_end(plan, stand, wording)]
    if ends == []:
        return NoRoad(found)
    costs, ways = cheapest_ways(stands, prices)
    end = min(ends, key=lambda stand: costs[stand])
    # All that is cheaper to come to than the end is closed but for steps that come to the price of the road.
    heights = [(stand, costs[stand]) for stand in found if costs[stand] < costs[end]]
    return Road(deeds_to(ways, end), heights)


def road_price(plan, prices, wording):
    """The least price of a road to a wording, None if there is no road."""
    found = road(plan, prices, wording)
    return sum([price_of(prices, deed) for deed in found.deeds]) if isinstance(found, Road) else None


def cheapest_ways(stands, prices):
    """For all good stands that come about, what it costs to come there, and the last step of a way that costs this.

    Both are dicts; the last step is a pair of the stand before and a deed, or None for the first stand.
    """
    found = [stands.first()]
    costs = {found[0]: 0}
    ways = {found[0]: None}
    at = 0
    # A stand is gone through anew whenever a cheaper way to it has been found.
    while at < len(found):
        stand = found[at]
        for deed, after in stands.steps(stand):
            cost = costs[stand] + price_of(prices, deed)
            if after not in costs or cost < costs[after]:
                costs[after] = cost
                ways[after] = (stand, deed)
                found.append(after)
        at += 1
    return (costs, ways)


def price_along(plan, stands, deeds, prices, wording):
    """The price of a road to a wording, None if the items of a list, of any kind, are not the deeds of one."""
    stand = stands.first()
    if not stands.is_fine(stand):
        return None
    for deed in deeds:
        if not is_among(deed, stands.choices(stand)):
            return None
        stand = stands.following(stand, deed)
        if not stands.is_fine(stand):
            return None
    return sum([price_of(prices, deed) for deed in deeds]) if is_end(plan, stand, wording) else None


def are_heights(plan, stands, heights, prices, wording, price):
    """Whether no step from a height leads lower than the heights say, but to the price, and none is at the end."""
    lowest = {}
    for stand, height in heights:
        lowest[stand] = min(height, lowest.get(stand, height))
    # With the lowest height of a stand, its greater ones hold, too.
    for stand in lowest:
        if is_end(plan, stand, wording):
            return False
        for deed, after in stands.steps(stand):
            reached = lowest[stand] + price_of(prices, deed)
            if reached < price and (after not in lowest or lowest[after] > reached):
                return False
    return True


def is_end(plan, stand, wording):
    """Whether a stand has this wording, and all things open."""
    return stand[0] == wording and len(stand[1]) == len(plan)


def price_of(prices, deed):
    """What a deed costs."""
    if deed[0] == "shut":
        return prices[deed[1]][0]
    if deed[0] == "build":
        return prices[deed[1]][1]
    return 0


def is_height(plan, value):
    """Whether a value of any kind is a pair of a stand and an integer."""
    return isinstance(value, tuple) and len(value) == 2 and is_stand(plan, value[0]) and is_whole(value[1])


def are_prices(plan, value):
    """Whether a value of any kind is a tuple with a pair of prices for each thing."""
    if not isinstance(value, tuple) or len(value) != len(plan):
        return False
    return all([isinstance(pair, tuple) and len(pair) == 2 and all([is_below(price, MOST_PRICE + 1) for price in pair])
                for pair in value])


def check_stand(plan, stand):
    """Raise BadStand if this is not a stand of the plan."""
    if not is_stand(plan, stand):
        raise BadStand("a stand is a triple of a wording, the things that are open, and what may be there")


def check_journey(plan, prices, wording):
    """Raise the error of the first argument that is wrong."""
    check_plan(plan)
    if not are_prices(plan, prices):
        raise BadPrices("prices are a tuple with a pair of integers from 0 to 9 for each thing")
    check_wording(plan.book, wording)
