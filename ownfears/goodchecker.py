"""The checker of papers that tell the greatest good falls of a house."""

from ownfears.errors import InvalidPaper
from ownfears.falls import all_falls
from ownfears.guildchecker import is_pair_of_tuples
from ownfears.guildparts import is_guild_of, round_fault
from ownfears.kinds import is_tuple_of
from ownfears.lotsets import includes, is_lot_of
from ownfears.netbasics import has_one_within, within_one
from ownfears.plainquorums import need_quorums
from ownfears.usable import need


def is_good_pair(net, quorums, house, thing):
    """Whether thing is a pair of a fall and a guild in it that has the house."""
    if not is_tuple_of(thing, 2) or not is_lot_of(net[0], thing[0]):
        return False
    fall, guild = thing
    return is_guild_of(net, quorums, fall, guild) and house in guild


def is_bad_pair(net, quorums, house, thing):
    """Whether thing is a pair of a fall and rounds of it, one of which has the house."""
    if not is_tuple_of(thing, 2) or not is_lot_of(net[0], thing[0]) or not isinstance(thing[1], tuple):
        return False
    fall, rounds = thing
    return round_fault(net, quorums, fall, (), rounds) is None and any([house in lot for lot in rounds])


def check_goods(net, quorums, house, goods):
    """Raise InvalidPaper for the first of the good falls that is not as told."""
    falls = []
    for k, thing in enumerate(goods):
        if not is_good_pair(net, quorums, house, thing) or (k > 0 and thing[0] <= falls[k - 1]):
            raise InvalidPaper("good", k)
        fall = thing[0]
        if any([includes(fall, earlier) or includes(earlier, fall) for earlier in falls]):
            raise InvalidPaper("within", k)
        falls.append(fall)


def lets_good(net, quorums, house, thing):
    """How many greatest good falls the house has; InvalidPaper for what does not show them."""
    need_quorums(net, quorums)
    need(house in net[0], "house")
    if not is_pair_of_tuples(thing):
        raise InvalidPaper("shape", -1)
    goods, bads = thing
    check_goods(net, quorums, house, goods)
    for k, pair in enumerate(bads):
        if not is_bad_pair(net, quorums, house, pair):
            raise InvalidPaper("bad", k)
    good = [fall for fall, _ in goods]
    bad = [fall for fall, _ in bads]
    for fall in all_falls(net):
        if not within_one(good, fall) and not has_one_within(bad, fall):
            raise InvalidPaper("fall", fall)
    return len(goods)
