"""The events of a bench."""

from ownfears.benchforms import is_event_of
from ownfears.kinds import is_net
from ownfears.protocolkinds import is_protocol
from ownfears.usable import need


def is_event(net, protocol, thing):
    """Whether thing is an event by form for this net and this protocol."""
    need(is_net(net), "net")
    need(is_protocol(protocol), "protocol")
    return is_event_of(net, protocol, thing)
