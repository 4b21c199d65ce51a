"""The first fault of what should be a protocol."""

from ownfears.kinds import is_name, is_tuple_of

HEARD = ("one", "kernel", "quorum", "self")


def is_stage(thing):
    """Whether thing is a triple of a name, a bool and a tuple."""
    if not is_tuple_of(thing, 3):
        return False
    name, once, ways = thing
    return is_name(name) and isinstance(once, bool) and isinstance(ways, tuple)


def is_condition(names, thing):
    """Whether thing is a condition, the stages having these names."""
    if is_tuple_of(thing, 1):
        return thing[0] == "sender"
    return is_tuple_of(thing, 2) and thing[0] in HEARD and thing[1] in names


def way_fault(names, k, ways):
    """The word and the place of the first fault in the ways of stage k; None if there is none."""
    for m, way in enumerate(ways):
        if not isinstance(way, tuple) or way == ():
            return ("way", (k, m))
        for n, condition in enumerate(way):
            if not is_condition(names, condition):
                return ("condition", (k, m, n))
    return None


def protocol_fault(thing):
    """The word and the place of the first fault in what should be a protocol; None if it is one."""
    if not isinstance(thing, tuple) or thing == ():
        return ("shape", -1)
    names = []
    for k, stage in enumerate(thing):
        if not is_stage(stage):
            return ("stage", k)
        if stage[0] in names:
            return ("name", k)
        names.append(stage[0])
    for k, stage in enumerate(thing):
        fault = way_fault(names, k, stage[2])
        if fault is not None:
            return fault
    return None
