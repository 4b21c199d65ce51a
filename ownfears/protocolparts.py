"""Parts of protocols: a stage, and the stages that stand behind it."""

from ownfears.protocolkinds import is_protocol
from ownfears.usable import need


def stage_named(protocol, name):
    """The stage of this name; None if there is none."""
    for stage in protocol:
        if stage[0] == name:
            return stage
    return None


def asked_stages(protocol, name):
    """A list of the names of the stages that stand in the conditions of this one."""
    ways = stage_named(protocol, name)[2]
    return [condition[1] for way in ways for condition in way if len(condition) == 2]


def stage_of(protocol, name):
    """The stage of this name."""
    need(is_protocol(protocol), "protocol")
    stage = stage_named(protocol, name)
    need(stage is not None, "name")
    return stage


def is_once(protocol, name):
    """Whether the stage of this name is once."""
    need(is_protocol(protocol), "protocol")
    stage = stage_named(protocol, name)
    need(stage is not None, "name")
    return stage[1]


def leads_to(protocol, name):
    """The set of the names of the stages that stand in its conditions, in those of these, and so on."""
    need(is_protocol(protocol), "protocol")
    need(stage_named(protocol, name) is not None, "name")
    found = []
    waiting = [name]
    while waiting:
        own = waiting.pop()
        for asked in asked_stages(protocol, own):
            if asked not in found:
                found.append(asked)
                waiting.append(asked)
    return tuple(sorted(found))
