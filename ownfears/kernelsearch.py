"""The kernels of families of quorums that are known to be usable."""

from ownfears.lotsets import common, least


def with_one_of(kernel, quorum):
    """A list of the lots that come of this one if it gets a house of the quorum, unless it has one."""
    if common(kernel, quorum) != ():
        return [kernel]
    return [tuple(sorted(kernel + (house,))) for house in quorum]


def least_kernels(family):
    """The family of the least lots that have one house of each of these quorums."""
    kernels = ((),)
    for quorum in family:
        kernels = least([lot for kernel in kernels for lot in with_one_of(kernel, quorum)])
    return kernels


def meets_each(lot, family):
    """Whether the lot has a house of each of these quorums."""
    return all([common(lot, quorum) != () for quorum in family])
