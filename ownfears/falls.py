"""Falls, and whom they find wise."""

from ownfears.kinds import is_net
from ownfears.lotsets import is_lot_of, sets_of
from ownfears.netbasics import family_of, within_one
from ownfears.usable import need


def state_of(net, fall, house):
    """The state of the house in the fall, all of them known to be usable."""
    if house in fall:
        return "fallen"
    return "wise" if within_one(family_of(net, house), fall) else "naive"


def houses_with(net, fall, state):
    """The set of the houses with this state in the fall."""
    need(is_net(net), "net")
    need(is_lot_of(net[0], fall), "fall")
    return tuple([house for house in net[0] if state_of(net, fall, house) == state])


def state_in(net, fall, house):
    """The state of the house in the fall: fallen, wise or naive."""
    need(is_net(net), "net")
    need(is_lot_of(net[0], fall), "fall")
    need(house in net[0], "house")
    return state_of(net, fall, house)


def wise_in(net, fall):
    """The set of the houses that are wise in the fall."""
    return houses_with(net, fall, "wise")


def naive_in(net, fall):
    """The set of the houses that are naive in the fall."""
    return houses_with(net, fall, "naive")


def all_falls(net):
    """Yield all falls of the net, those with fewer houses first, then ascending."""
    need(is_net(net), "net")
    houses = net[0]
    for size in range(len(houses) + 1):
        yield from sets_of(houses, size)


def falls_without(net, house, other):
    """The list of the falls that have neither of the two, those with fewer houses first, then ascending."""
    return [fall for fall in all_falls(net) if house not in fall and other not in fall]
