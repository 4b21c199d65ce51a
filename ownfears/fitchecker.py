"""The checker of quorums that fit a net."""

from ownfears.errors import InvalidPaper
from ownfears.familychecker import check_family
from ownfears.kinds import is_net, is_tuple_of
from ownfears.lotsets import common
from ownfears.netbasics import within_one
from ownfears.usable import need


def check_available(fears, quorums):
    """Raise InvalidPaper for the first lot of a house that leaves it no quorum."""
    for h, family in enumerate(fears):
        for m, lot in enumerate(family):
            if not any([common(quorum, lot) == () for quorum in quorums[h]]):
                raise InvalidPaper("available", (h, m))


def check_pair(fears, quorums, h, i):
    """Raise InvalidPaper for the first quorums of two houses that share only houses that both fear together."""
    for m, quorum in enumerate(quorums[h]):
        for k, other in enumerate(quorums[i]):
            shared = common(quorum, other)
            if within_one(fears[h], shared) and within_one(fears[i], shared):
                raise InvalidPaper("agree", (h, i, m, k))


def lets_fit(net, thing):
    """How many quorums there are in all; InvalidPaper for what is no quorums that fit the net."""
    need(is_net(net), "net")
    houses, fears = net
    if not is_tuple_of(thing, len(houses)):
        raise InvalidPaper("shape", -1)
    for h, family in enumerate(thing):
        check_family(houses, h, family, False)
    check_available(fears, thing)
    for h in range(len(houses)):
        for i in range(h, len(houses)):
            check_pair(fears, thing, h, i)
    return sum([len(family) for family in thing])
