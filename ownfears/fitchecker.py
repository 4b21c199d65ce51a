"""The checker of quorums that fit a net."""

from ownfears.errors import InvalidPaper
from ownfears.familychecker import check_family
from ownfears.fitsearch import missed_at, torn_at
from ownfears.kinds import is_net, is_tuple_of
from ownfears.usable import need


def lets_fit(net, thing):
    """How many quorums there are in all; InvalidPaper for what is no quorums that fit the net."""
    need(is_net(net), "net")
    houses, fears = net
    if not is_tuple_of(thing, len(houses)):
        raise InvalidPaper("shape", -1)
    for h, family in enumerate(thing):
        check_family(houses, h, family, False)
    missed = missed_at(fears, thing)
    if missed is not None:
        raise InvalidPaper("available", missed)
    torn = torn_at(fears, thing)
    if torn is not None:
        raise InvalidPaper("agree", torn)
    return sum([len(family) for family in thing])
