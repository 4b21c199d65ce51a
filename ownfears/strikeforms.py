"""Prices of the lots of a net that is known to be usable, and what strikes cost."""

from ownfears.kinds import is_number, is_tuple_of
from ownfears.netbasics import family_of


def are_prices_of(family, thing):
    """Whether thing is a tuple with a number from 1 on for each lot of the family."""
    return is_tuple_of(thing, len(family)) and all([is_number(price) and price > 0 for price in thing])


def are_prices(net, thing):
    """Whether thing is prices of the net."""
    fears = net[1]
    return is_tuple_of(thing, len(fears)) and all([are_prices_of(family, row) for family, row in zip(fears, thing)])


def price_of(net, prices, pair):
    """The price of the lot of a house, these being the pair."""
    house, lot = pair
    return family_of((net[0], prices), house)[family_of(net, house).index(lot)]


def price_of_all(net, prices, pairs):
    """The sum of the prices of the pairs."""
    return sum([price_of(net, prices, pair) for pair in pairs])
