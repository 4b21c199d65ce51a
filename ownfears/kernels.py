"""Kernels: the least lots that have one house of each quorum of a house."""

from ownfears.kernelsearch import least_kernels, meets_each
from ownfears.lotsets import is_lot_of, without
from ownfears.netbasics import family_of
from ownfears.plainquorums import need_quorums
from ownfears.usable import need


def kernels_of(net, quorums, house):
    """The family of the kernels of the house."""
    need_quorums(net, quorums)
    need(house in net[0], "house")
    return least_kernels(family_of((net[0], quorums), house))


def is_kernel(net, quorums, house, lot):
    """Whether the lot is a kernel of the house."""
    need_quorums(net, quorums)
    need(house in net[0], "house")
    need(is_lot_of(net[0], lot), "lot")
    family = family_of((net[0], quorums), house)
    # If no lot with one house less meets each quorum, none with still less does.
    return meets_each(lot, family) and not any([meets_each(without(lot, (name,)), family) for name in lot])
