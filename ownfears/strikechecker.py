"""The checker of papers that tell the least price."""

from ownfears.coverchecker import cover_fault
from ownfears.coversearch import least_cover
from ownfears.errors import InvalidPaper
from ownfears.kinds import is_net, is_number, is_tuple_of
from ownfears.netbasics import net_without
from ownfears.netchanges import are_strikes
from ownfears.strikeforms import are_prices, price_of_all
from ownfears.usable import need


def pairs_in(cover):
    """The list of the different pairs of a house of the cover and a lot of it that is not empty, ascending."""
    house, other, first, second, third, fourth = cover
    pairs = [(house, first), (other, second), (house, third), (other, fourth)]
    return sorted(set([pair for pair in pairs if pair[1] != ()]))


def is_node(thing):
    """Whether thing is a node by form."""
    if is_tuple_of(thing, 1):
        return thing[0] == "paid"
    return is_tuple_of(thing, 3) and thing[0] == "split" and isinstance(thing[2], tuple)


def node_fault(net, prices, price, ahead, node):
    """The word for what is wrong at a node, behind these pairs, but in its branches; None if nothing is."""
    if not is_node(node):
        return "node"
    if node == ("paid",):
        return "paid" if price_of_all(net, prices, ahead) < price else None
    _, cover, branches = node
    if cover_fault(net_without(net, ahead), cover) is not None:
        return "split"
    return "branches" if len(branches) != len(pairs_in(cover)) else None


def check_tree(net, prices, price, tree):
    """Raise InvalidPaper for the first node that is not as told."""
    waiting = [((), (), tree)]
    while waiting:
        at, ahead, node = waiting.pop()
        word = node_fault(net, prices, price, ahead, node)
        if word is not None:
            raise InvalidPaper(word, at)
        if node[0] == "split":
            _, cover, branches = node
            below = [(at + (k,), ahead + (pair,), branches[k]) for k, pair in enumerate(pairs_in(cover))]
            # The last one that waits is the next one.
            waiting = waiting + below[::-1]


def lets_strikes(net, prices, thing):
    """The price of a paper, which is the least price; InvalidPaper for what does not show it."""
    need(is_net(net), "net")
    need(are_prices(net, prices), "prices")
    if not is_tuple_of(thing, 3):
        raise InvalidPaper("shape", -1)
    price, strikes, tree = thing
    if not is_number(price):
        raise InvalidPaper("price", -1)
    if not are_strikes(net, strikes) or price_of_all(net, prices, strikes) != price:
        raise InvalidPaper("strikes", -1)
    if least_cover(net_without(net, strikes)) is not None:
        raise InvalidPaper("cover", -1)
    check_tree(net, prices, price, tree)
    return price
