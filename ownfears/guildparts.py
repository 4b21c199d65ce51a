"""Guilds, and the rounds in which all other houses are struck; nets, quorums and falls are known to be usable."""

from ownfears.falls import state_of
from ownfears.lotsets import is_lot_of, without
from ownfears.netbasics import family_of, has_one_within, has_one_without


def is_guild_of(net, quorums, fall, thing):
    """Whether thing is a guild in the fall."""
    houses = net[0]
    if not is_lot_of(houses, thing):
        return False
    wise = all([state_of(net, fall, house) == "wise" for house in thing])
    return wise and all([has_one_within(family_of((houses, quorums), house), thing) for house in thing])


def is_struck(net, quorums, fall, house, ahead):
    """Whether the house can be struck, those ahead being struck already."""
    if state_of(net, fall, house) != "wise":
        return True
    return not has_one_without(family_of((net[0], quorums), house), ahead)


def rounds_of(net, quorums, fall):
    """The rounds of the fall, each with all that can be struck in it; whom none of them has is the greatest guild."""
    rounds = []
    left = net[0]
    while True:
        ahead = without(net[0], left)
        lot = tuple([house for house in left if is_struck(net, quorums, fall, house, ahead)])
        if lot == ():
            return tuple(rounds)
        rounds.append(lot)
        left = without(left, lot)


def guild_behind(net, rounds):
    """The set of the houses that are in none of the rounds."""
    left = net[0]
    for lot in rounds:
        left = without(left, lot)
    return left


def round_fault(net, quorums, fall, guild, rounds):
    """The word and the index of the first fault in a tuple of rounds, beside a guild; None if there is none."""
    ahead = ()
    for k, lot in enumerate(rounds):
        if not is_lot_of(net[0], lot) or lot == ():
            return ("lot", k)
        if any([house in guild or house in ahead for house in lot]):
            return ("twice", k)
        if not all([is_struck(net, quorums, fall, house, ahead) for house in lot]):
            return ("round", k)
        ahead = ahead + lot
    return None
