"""The checker of nets."""

from ownfears.errors import InvalidPaper
from ownfears.familychecker import check_family
from ownfears.kinds import is_name, is_tuple_of


def has_net_shape(thing):
    """Whether thing is a pair of tuples, the first one nonempty, the second with as many elements."""
    if not is_tuple_of(thing, 2):
        return False
    houses, fears = thing
    return isinstance(houses, tuple) and houses != () and is_tuple_of(fears, len(houses))


def lets_net(thing):
    """How many lots a net has in all houses together; InvalidPaper for what is no net."""
    if not has_net_shape(thing):
        raise InvalidPaper("shape", -1)
    houses, fears = thing
    for k, house in enumerate(houses):
        if not is_name(house) or (k > 0 and house <= houses[k - 1]):
            raise InvalidPaper("house", k)
    for h, family in enumerate(fears):
        check_family(houses, h, family, True)
    return sum([len(family) for family in fears])
