"""Events and logs of benches that are read from lines."""

from ownfears.benchforms import is_event_of
from ownfears.errors import InvalidText
from ownfears.kinds import is_name, is_net
from ownfears.netreadings import pair_of_lines
from ownfears.plainquorums import are_quorums_of
from ownfears.protocolkinds import is_protocol
from ownfears.protocolreadings import stages_of_lines
from ownfears.sayingforms import VALUES
from ownfears.usable import need

PARTS = ("quorums", "protocol", "events")
SIZES = {"say": 4, "fall": 2}


def stands_in_event(words, column):
    """Whether the word of this column can stand in the line of an event, if those ahead of it can."""
    word = words[column]
    if column == 0:
        return word in SIZES
    if column >= SIZES[words[0]]:
        return False
    return word in VALUES if column == 3 else is_name(word)


def event_of_line(text, line):
    """The event by form that the text writes, which is the line of this index."""
    words = text.split(" ")
    for column in range(len(words)):
        if not stands_in_event(words, column):
            raise InvalidText(line, column)
    if len(words) < SIZES[words[0]]:
        raise InvalidText(line, len(words))
    return tuple(words)


def read_event(text):
    """The event by form that the text writes."""
    need(isinstance(text, str), "text")
    return event_of_line(text, 0)


def are_lines(thing):
    """Whether thing is a list of strings without newlines."""
    return isinstance(thing, list) and all([isinstance(line, str) and "\n" not in line for line in thing])


def sender_of(lines):
    """The sender that the first line tells, be it a house or not."""
    if not lines:
        raise InvalidText(0, 0)
    words = lines[0].split(" ")
    if words[0] != "bench":
        raise InvalidText(0, 0)
    if len(words) == 1 or not is_name(words[1]):
        raise InvalidText(0, 1)
    if len(words) > 2:
        raise InvalidText(0, 2)
    return words[1]


def part_ends(lines):
    """The list of the indexes of the lines that begin quorums, protocol and events."""
    ends = []
    for k, line in enumerate(lines):
        if len(ends) < len(PARTS) and line == PARTS[len(ends)]:
            ends.append(k)
    if len(ends) < len(PARTS):
        raise InvalidText(len(lines), 0)
    return ends


def net_between(lines, begin, end):
    """The net that these of the lines write."""
    net = pair_of_lines(lines[begin:end], begin)
    if not is_net(net):
        raise InvalidText(begin, 0)
    return net


def quorums_between(lines, begin, end, net):
    """The quorums of the net that these of the lines write."""
    houses, quorums = pair_of_lines(lines[begin:end], begin)
    if houses != net[0] or not are_quorums_of(houses, quorums):
        raise InvalidText(begin, 0)
    return quorums


def protocol_between(lines, begin, end):
    """The protocol that these of the lines write."""
    protocol = stages_of_lines(lines[begin:end], begin)
    if not is_protocol(protocol):
        raise InvalidText(begin, 0)
    return protocol


def read_log(lines):
    """The log that the list of lines writes."""
    need(are_lines(lines), "lines")
    sender = sender_of(lines)
    one, two, three = part_ends(lines)
    net = net_between(lines, 1, one)
    quorums = quorums_between(lines, one + 1, two, net)
    protocol = protocol_between(lines, two + 1, three)
    if sender not in net[0]:
        raise InvalidText(0, 1)
    events = []
    for k in range(three + 1, len(lines)):
        event = event_of_line(lines[k], k)
        if not is_event_of(net, protocol, event):
            raise InvalidText(k, 0)
        events.append(event)
    return (("bench", net, quorums, protocol, sender),) + tuple(events)
