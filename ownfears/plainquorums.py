"""Quorums of nets by form, and the plain ones."""

from ownfears.errors import NotPossible
from ownfears.kinds import is_net, is_tuple_of
from ownfears.lotsets import is_family_of, without
from ownfears.usable import need


def has_lot_of_all(net):
    """Whether some house fears that all houses fall together."""
    houses, fears = net
    return any([houses in family for family in fears])


def plain_quorums(net):
    """The plain quorums of the net."""
    need(is_net(net), "net")
    if has_lot_of_all(net):
        raise NotPossible(-1)
    houses, fears = net
    return tuple([tuple(sorted([without(houses, lot) for lot in family])) for family in fears])


def are_quorums_of(houses, thing):
    """Whether thing is quorums of a net with these houses, which are taken to be houses."""
    if not is_tuple_of(thing, len(houses)):
        return False
    return all([is_family_of(houses, family) and () not in family for family in thing])


def are_quorums(net, thing):
    """Whether thing is quorums of the net, whether they fit it or not."""
    need(is_net(net), "net")
    return are_quorums_of(net[0], thing)


def need_quorums(net, quorums):
    """Raise NotUsable unless net is a net, and quorums are quorums of it."""
    need(is_net(net), "net")
    need(are_quorums_of(net[0], quorums), "quorums")
