"""The checker of guild papers."""

from ownfears.errors import InvalidPaper
from ownfears.guildparts import guild_behind, is_guild_of, round_fault
from ownfears.kinds import is_tuple_of
from ownfears.lotsets import is_lot_of
from ownfears.plainquorums import need_quorums
from ownfears.usable import need


def is_pair_of_tuples(thing):
    """Whether thing is a pair of two tuples."""
    return is_tuple_of(thing, 2) and isinstance(thing[0], tuple) and isinstance(thing[1], tuple)


def lets_guild(net, quorums, fall, thing):
    """How many houses the greatest guild has; InvalidPaper for what does not show it."""
    need_quorums(net, quorums)
    need(is_lot_of(net[0], fall), "fall")
    if not is_pair_of_tuples(thing):
        raise InvalidPaper("shape", -1)
    guild, rounds = thing
    if not is_guild_of(net, quorums, fall, guild):
        raise InvalidPaper("guild", -1)
    fault = round_fault(net, quorums, fall, guild, rounds)
    if fault is not None:
        word, k = fault
        raise InvalidPaper(word, k)
    if guild_behind(net, rounds) != guild:
        raise InvalidPaper("rest", -1)
    return len(guild)
