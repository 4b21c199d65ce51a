"""Who gets on with whom."""

from ownfears.coversearch import pair_clashes
from ownfears.kinds import is_net
from ownfears.lotsets import includes, sets_of
from ownfears.netbasics import cut_net
from ownfears.usable import need


def clashing_pairs(net):
    """The pairs that clashing tells, of a net that is known to be usable."""
    houses = net[0]
    pairs = [(house, other) for k, house in enumerate(houses) for other in houses[k:]]
    return tuple([(house, other) for house, other in pairs if pair_clashes(net, house, other)])


def clashing(net):
    """The set of the pairs (house, other), house not greater than other, of which the net has a cover."""
    need(is_net(net), "net")
    return clashing_pairs(net)


def greatest_kept(net):
    """The set of the greatest sets of houses whose net alone has no cover."""
    need(is_net(net), "net")
    houses = net[0]
    kept = []
    # The greater sets come first: what lies within one that was found is left out.
    for size in range(len(houses), 0, -1):
        others = [lot for lot in sets_of(houses, size) if not any([includes(found, lot) for found in kept])]
        # A cover stays one with its houses exchanged, so these pairs tell of all.
        kept = kept + [lot for lot in others if clashing_pairs(cut_net(net, lot)) == ()]
    return tuple(sorted(kept))
