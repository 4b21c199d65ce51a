"""What is asked of nets that are known to be usable."""

from ownfears.lotsets import common, greatest, includes


def family_of(net, house):
    """The family of the house."""
    houses, fears = net
    return fears[houses.index(house)]


def within_one(family, lot):
    """Whether the lot lies within one of the family."""
    for greater in family:
        if includes(greater, lot):
            return True
    return False


def has_one_within(family, lot):
    """Whether one of the family lies within the lot."""
    for lesser in family:
        if includes(lot, lesser):
            return True
    return False


def has_one_without(family, lot):
    """Whether one of the family has no house of the lot."""
    for own in family:
        if common(own, lot) == ():
            return True
    return False


def common_parts(family, others):
    """The family of the greatest lots that lie within one of each of the two families."""
    return greatest([common(lot, other) for lot in family for other in others])


def family_or_nobody(lots):
    """The family of these lots, that of the empty lot if there are none."""
    return tuple(lots) if lots else ((),)


def net_without(net, pairs):
    """The net without the lots of these pairs of a house and a lot of it."""
    houses, fears = net
    left = [[lot for lot in family if (house, lot) not in pairs] for house, family in zip(houses, fears)]
    return (houses, tuple([family_or_nobody(lots) for lots in left]))


def cut_net(net, houses):
    """The net of these houses of the net alone, with lots that are cut to them."""
    cut = [greatest([common(lot, houses) for lot in family_of(net, house)]) for house in houses]
    return (houses, tuple(cut))
