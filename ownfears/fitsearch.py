"""The first place at which quorums do not fit a net; both are known to be usable, but for how they fit."""

from ownfears.lotsets import common
from ownfears.netbasics import has_one_without, within_one


def missed_at(fears, quorums):
    """The indexes of the first house and lot of it that leaves it no quorum; None if there is none."""
    for h, family in enumerate(fears):
        for m, lot in enumerate(family):
            if not has_one_without(quorums[h], lot):
                return (h, m)
    return None


def torn_between(fears, quorums, h, i):
    """The indexes of the first quorums of two houses that share only houses that both fear together, or None."""
    for m, quorum in enumerate(quorums[h]):
        for k, other in enumerate(quorums[i]):
            shared = common(quorum, other)
            if within_one(fears[h], shared) and within_one(fears[i], shared):
                return (m, k)
    return None


def torn_at(fears, quorums):
    """The indexes of the first two houses, and of their first quorums, that do not agree; None if all do."""
    for h in range(len(fears)):
        for i in range(h, len(fears)):
            torn = torn_between(fears, quorums, h, i)
            if torn is not None:
                return (h, i) + torn
    return None
