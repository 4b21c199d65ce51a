"""Parts of nets: whose lots are which, and who reckons with what."""

from ownfears.kinds import is_net
from ownfears.lotsets import is_lot_of, without
from ownfears.netbasics import common_parts, family_of, within_one
from ownfears.usable import need


def lots_of(net, house):
    """The family of the house."""
    need(is_net(net), "net")
    need(house in net[0], "house")
    return family_of(net, house)


def reckons(net, house, lot):
    """Whether the house reckons with the lot."""
    need(is_net(net), "net")
    need(house in net[0], "house")
    need(is_lot_of(net[0], lot), "lot")
    return within_one(family_of(net, house), lot)


def both_reckon(net, house, other):
    """The family of the greatest lots with which house and other both reckon."""
    need(is_net(net), "net")
    need(house in net[0], "house")
    need(other in net[0], "other")
    return common_parts(family_of(net, house), family_of(net, other))


def feared_by(net, lot):
    """The set of the houses that reckon with the lot."""
    need(is_net(net), "net")
    need(is_lot_of(net[0], lot), "lot")
    return tuple([house for house in net[0] if within_one(family_of(net, house), lot)])


def rest_of(net, lot):
    """The set of the houses that are not in the lot."""
    need(is_net(net), "net")
    need(is_lot_of(net[0], lot), "lot")
    return without(net[0], lot)
