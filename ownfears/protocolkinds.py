"""Whether a value is a protocol, or a setting for one."""

from ownfears.kinds import is_net, is_tuple_of
from ownfears.lotsets import is_lot_of
from ownfears.plainquorums import are_quorums_of, need_quorums
from ownfears.protocolfaults import protocol_fault
from ownfears.usable import need


def is_protocol(thing):
    """Whether thing is a protocol."""
    return protocol_fault(thing) is None


def is_setting(thing):
    """Whether thing is a net, quorums of it, a protocol, a house that sends, and a fall."""
    if not is_tuple_of(thing, 5):
        return False
    net, quorums, protocol, sender, fall = thing
    if not is_net(net) or not are_quorums_of(net[0], quorums):
        return False
    return protocol_fault(protocol) is None and sender in net[0] and is_lot_of(net[0], fall)


def need_parts(net, quorums, protocol, sender):
    """Raise NotUsable unless these are the parts of a setting, but for its fall."""
    need_quorums(net, quorums)
    need(is_protocol(protocol), "protocol")
    need(sender in net[0], "sender")
