"""Events and logs of benches as lines."""

from ownfears.benchforms import is_event_by_form, is_log_of_form
from ownfears.nettexts import net_text
from ownfears.protocoltexts import protocol_text
from ownfears.usable import need


def event_line(event):
    """The line of an event by form, for whatever net and protocol."""
    need(is_event_by_form(event), "event")
    return " ".join(event)


def log_lines(log):
    """The list of the lines of a log."""
    need(is_log_of_form(log), "log")
    _, net, quorums, protocol, sender = log[0]
    lines = [f"bench {sender}"] + net_text(net).split("\n")
    # Quorums are by form the families of a net, and so are written like those.
    lines = lines + ["quorums"] + net_text((net[0], quorums)).split("\n")
    lines = lines + ["protocol"] + protocol_text(protocol).split("\n")
    return lines + ["events"] + [event_line(event) for event in log[1:]]
