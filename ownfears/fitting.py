"""Whether quorums are available, agree, and so fit a net, and what they fail at."""

from ownfears.fitsearch import missed_at, torn_at
from ownfears.lotsets import common
from ownfears.plainquorums import need_quorums


def are_available(net, quorums):
    """Whether each house has, for each of its lots, a quorum without any house of it."""
    need_quorums(net, quorums)
    return missed_at(net[1], quorums) is None


def missed_lot(net, quorums):
    """The first pair of a house and a lot of it that leaves it no quorum; None if there is none."""
    need_quorums(net, quorums)
    houses, fears = net
    missed = missed_at(fears, quorums)
    if missed is None:
        return None
    h, m = missed
    return (houses[h], fears[h][m])


def agree(net, quorums):
    """Whether no two quorums have in common only houses of a lot with which both their houses reckon."""
    need_quorums(net, quorums)
    return torn_at(net[1], quorums) is None


def torn_pair(net, quorums):
    """The first two houses, and quorums of them, that do not agree, and what these share; None if all agree."""
    need_quorums(net, quorums)
    houses, fears = net
    torn = torn_at(fears, quorums)
    if torn is None:
        return None
    h, i, m, k = torn
    first = quorums[h][m]
    second = quorums[i][k]
    return (houses[h], houses[i], first, second, common(first, second))


def fits(net, quorums):
    """Whether the quorums fit the net."""
    need_quorums(net, quorums)
    return missed_at(net[1], quorums) is None and torn_at(net[1], quorums) is None
