"""Guilds: the houses that can go on together in a fall."""

from ownfears.guildparts import guild_behind, is_guild_of, rounds_of
from ownfears.lotsets import is_lot_of
from ownfears.plainquorums import need_quorums
from ownfears.usable import need


def greatest_guild(net, quorums, fall):
    """The greatest guild in the fall, perhaps of no house."""
    need_quorums(net, quorums)
    need(is_lot_of(net[0], fall), "fall")
    return guild_behind(net, rounds_of(net, quorums, fall))


def is_guild(net, quorums, fall, thing):
    """Whether thing is a guild in the fall."""
    need_quorums(net, quorums)
    need(is_lot_of(net[0], fall), "fall")
    return is_guild_of(net, quorums, fall, thing)


def guild_paper(net, quorums, fall):
    """The greatest guild in the fall, and the rounds in which all other houses are struck."""
    need_quorums(net, quorums)
    need(is_lot_of(net[0], fall), "fall")
    rounds = rounds_of(net, quorums, fall)
    return (guild_behind(net, rounds), rounds)
