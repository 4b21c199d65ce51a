"""Events and logs of benches by form; nets and protocols are known to be usable."""

from ownfears.kinds import is_name, is_net, is_tuple_of
from ownfears.plainquorums import are_quorums_of
from ownfears.protocolkinds import is_protocol
from ownfears.protocolparts import stage_named
from ownfears.sayingforms import is_saying_by_form


def is_event_by_form(thing):
    """Whether thing is an event by form for some net and some protocol."""
    if is_tuple_of(thing, 2):
        return thing[0] == "fall" and is_name(thing[1])
    return is_tuple_of(thing, 4) and thing[0] == "say" and is_saying_by_form(thing[1:])


def is_event_of(net, protocol, thing):
    """Whether thing is an event by form for this net and this protocol."""
    if not is_event_by_form(thing) or thing[1] not in net[0]:
        return False
    return thing[0] == "fall" or stage_named(protocol, thing[2]) is not None


def is_log_of_form(thing):
    """Whether thing is a log."""
    if not isinstance(thing, tuple) or thing == () or not is_tuple_of(thing[0], 5):
        return False
    word, net, quorums, protocol, sender = thing[0]
    if word != "bench" or not is_net(net) or not are_quorums_of(net[0], quorums):
        return False
    if not is_protocol(protocol) or sender not in net[0]:
        return False
    return all([is_event_of(net, protocol, event) for event in thing[1:]])
