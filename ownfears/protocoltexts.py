"""Protocols as texts."""

from ownfears.protocolkinds import is_protocol
from ownfears.usable import need


def way_word(way):
    """The word of a way."""
    return "+".join([":".join(condition) for condition in way])


def stage_line(stage):
    """The line of a stage."""
    name, once, ways = stage
    words = [way_word(way) for way in ways] if ways else ["-"]
    return " ".join([name, "once" if once else "free"] + words)


def protocol_text(protocol):
    """The lines of a protocol, one for each stage."""
    need(is_protocol(protocol), "protocol")
    return "\n".join([stage_line(stage) for stage in protocol])
