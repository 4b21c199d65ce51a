"""Nets with a change: other lots, other names, fewer houses."""

from ownfears.errors import NotUsable
from ownfears.kinds import are_houses, is_name, is_net, is_tuple_of
from ownfears.lotsets import ascend, greatest, is_lot_of
from ownfears.netbasics import cut_net, family_of, family_or_nobody, net_without
from ownfears.usable import need


def with_family(net, house, family):
    """The net in which the house has this family."""
    houses, fears = net
    return (houses, tuple([family if one == house else own for one, own in zip(houses, fears)]))


def with_lot(net, house, lot):
    """The net in which the house fears this lot, too."""
    need(is_net(net), "net")
    need(house in net[0], "house")
    need(is_lot_of(net[0], lot), "lot")
    return with_family(net, house, greatest(family_of(net, house) + (lot,)))


def without_lot(net, house, lot):
    """The net in which this is no longer one of the lots of the house."""
    need(is_net(net), "net")
    need(house in net[0], "house")
    need(lot in family_of(net, house), "lot")
    left = [own for own in family_of(net, house) if own != lot]
    return with_family(net, house, family_or_nobody(left))


def is_own_lot(net, thing):
    """Whether thing is a pair of a house and one of its lots."""
    return is_tuple_of(thing, 2) and thing[0] in net[0] and thing[1] in family_of(net, thing[0])


def are_strikes(net, thing):
    """Whether thing is strikes of the net."""
    if not isinstance(thing, tuple):
        return False
    # The pairs come first: only of those is it known that they can be compared.
    return all([is_own_lot(net, pair) for pair in thing]) and ascend(thing)


def struck(net, strikes):
    """The net without the strikes."""
    need(is_net(net), "net")
    need(are_strikes(net, strikes), "strikes")
    return net_without(net, strikes)


def names_behind(houses, pairs):
    """A dict with the new name of each house; NotUsable for the first pair that is none."""
    news = {}
    for k, pair in enumerate(pairs):
        if not is_tuple_of(pair, 2) or pair[0] not in houses or not is_name(pair[1]) or pair[0] in news:
            raise NotUsable("pairs", k)
        news[pair[0]] = pair[1]
    return {house: news.get(house, house) for house in houses}


def renamed(net, *pairs):
    """The net in which each old house of a pair has the new name of it."""
    need(is_net(net), "net")
    houses, fears = net
    news = names_behind(houses, pairs)
    called = [news[house] for house in houses]
    need(len(set(called)) == len(houses), "pairs")
    families = {}
    for house, family in zip(houses, fears):
        lots = [tuple(sorted([news[name] for name in lot])) for lot in family]
        families[news[house]] = tuple(sorted(lots))
    return (tuple(sorted(called)), tuple([families[house] for house in sorted(called)]))


def kept_to(net, houses):
    """The net of these houses alone, with lots that are cut to them."""
    need(is_net(net), "net")
    need(are_houses(houses) and is_lot_of(net[0], houses), "houses")
    return cut_net(net, houses)
