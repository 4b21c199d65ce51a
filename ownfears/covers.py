"""Covers of nets, and papers that tell whether there is one."""

from ownfears.coverchecker import cover_fault
from ownfears.coversearch import least_cover, net_covers
from ownfears.kinds import is_net
from ownfears.plainquorums import plain_quorums
from ownfears.usable import need


def has_cover(net):
    """Whether the net has a cover."""
    need(is_net(net), "net")
    return least_cover(net) is not None


def first_cover(net):
    """The first cover of the net, ascending; None if there is none."""
    need(is_net(net), "net")
    return least_cover(net)


def all_covers(net):
    """Yield all covers of the net, ascending."""
    need(is_net(net), "net")
    yield from net_covers(net)


def is_cover(net, thing):
    """Whether thing is a cover of the net."""
    need(is_net(net), "net")
    return cover_fault(net, thing) is None


def fit_paper(net):
    """A paper with quorums that fit the net, or with a cover of it."""
    need(is_net(net), "net")
    cover = least_cover(net)
    if cover is None:
        return ("fits", plain_quorums(net))
    return ("cover", cover)
