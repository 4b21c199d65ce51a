"""Good falls: those in which a guild has the house."""

from ownfears.falls import all_falls
from ownfears.guildparts import guild_behind, rounds_of
from ownfears.lotsets import greatest, least
from ownfears.plainquorums import need_quorums
from ownfears.usable import need


def falls_judged(net, quorums, house):
    """The list of the falls that are good for the house, and that of all others."""
    good = []
    bad = []
    for fall in all_falls(net):
        if house in guild_behind(net, rounds_of(net, quorums, fall)):
            good.append(fall)
        else:
            bad.append(fall)
    return (good, bad)


def good_falls(net, quorums, house):
    """The family of the greatest falls that are good for the house."""
    need_quorums(net, quorums)
    need(house in net[0], "house")
    good, _ = falls_judged(net, quorums, house)
    return greatest(good)


def good_paper(net, quorums, house):
    """The greatest good falls with their guilds, and the least others with rounds that strike the house."""
    need_quorums(net, quorums)
    need(house in net[0], "house")
    good, bad = falls_judged(net, quorums, house)
    goods = [(fall, guild_behind(net, rounds_of(net, quorums, fall))) for fall in greatest(good)]
    bads = [(fall, rounds_of(net, quorums, fall)) for fall in least(bad)]
    return (tuple(goods), tuple(bads))
