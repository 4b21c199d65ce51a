"""The strikes at the least price behind which a net has no cover."""

from ownfears.kinds import is_net
from ownfears.strikeforms import are_prices, price_of
from ownfears.strikesearch import Fears, lightest_strikes, weight_of
from ownfears.striketrees import Plan, node_behind
from ownfears.usable import need


def prices_in(net, prices, fears):
    """The list of the prices of the pairs, by their numbers."""
    return [price_of(net, prices, pair) for pair in fears.pairs]


def pairs_of(fears, numbers):
    """The set of the pairs with these numbers."""
    return tuple([fears.pairs[k] for k in sorted(numbers)])


def least_price(net, prices):
    """The least sum of the prices of strikes behind which the net has no cover."""
    need(is_net(net), "net")
    need(are_prices(net, prices), "prices")
    fears = Fears(net)
    weights = prices_in(net, prices, fears)
    struck, _ = lightest_strikes(fears, weights)
    return weight_of(weights, struck)


def least_strikes(net, prices):
    """The first strikes with this price, ascending, behind which the net has no cover."""
    need(is_net(net), "net")
    need(are_prices(net, prices), "prices")
    fears = Fears(net)
    # Of two strikes at one price, those come first that have the first pair that is not in both. So what comes first
    # weighs a little less, but all of that together is less than a price of 1.
    high = 1 << len(fears.pairs)
    weights = [price * high - (high >> k + 1) for k, price in enumerate(prices_in(net, prices, fears))]
    struck, _ = lightest_strikes(fears, weights)
    return pairs_of(fears, struck)


def strike_paper(net, prices):
    """The least price, strikes with this price, and a tree that shows that none cost less."""
    need(is_net(net), "net")
    need(are_prices(net, prices), "prices")
    fears = Fears(net)
    weights = prices_in(net, prices, fears)
    struck, covers = lightest_strikes(fears, weights)
    price = weight_of(weights, struck)
    return (price, pairs_of(fears, struck), node_behind(Plan(fears, weights, covers, price), ()))
