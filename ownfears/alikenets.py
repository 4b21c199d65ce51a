"""Nets in which all houses fear alike, and what all of them fear."""

from ownfears.kinds import are_houses, is_net, is_number
from ownfears.lotsets import sets_of
from ownfears.netbasics import common_parts
from ownfears.usable import need


def alike_net(houses, k):
    """The net of these houses in which each one's lots are all sets of k houses."""
    need(are_houses(houses), "houses")
    need(is_number(k) and k <= len(houses), "k")
    family = tuple(sets_of(houses, k))
    return (houses, (family,) * len(houses))


def common_fears(net):
    """The family of the greatest lots with which all houses of the net reckon."""
    need(is_net(net), "net")
    fears = net[1]
    shared = fears[0]
    for family in fears[1:]:
        shared = common_parts(shared, family)
    return shared
