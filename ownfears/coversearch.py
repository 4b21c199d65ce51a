"""The covers of nets that are known to be usable."""

from ownfears.lotsets import includes, without
from ownfears.netbasics import family_of


def pair_covers(net, house, other):
    """Yield the covers of these two houses, ascending."""
    mine = family_of(net, house)
    theirs = family_of(net, other)
    for first in mine:
        for second in theirs:
            rest = without(net[0], first + second)
            thirds = [lot for lot in mine if includes(lot, rest)]
            fourths = [lot for lot in theirs if includes(lot, rest)]
            for third in thirds:
                for fourth in fourths:
                    yield (house, other, first, second, third, fourth)


def net_covers(net):
    """Yield the covers of the net, ascending."""
    for house in net[0]:
        for other in net[0]:
            yield from pair_covers(net, house, other)


def pair_clashes(net, house, other):
    """Whether the net has a cover of these two houses."""
    for _ in pair_covers(net, house, other):
        return True
    return False


def least_cover(net):
    """The first cover of the net, ascending; None if there is none."""
    for cover in net_covers(net):
        return cover
    return None
