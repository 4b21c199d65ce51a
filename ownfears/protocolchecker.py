"""The checker of protocols."""

from ownfears.errors import InvalidPaper
from ownfears.protocolfaults import protocol_fault


def lets_protocol(thing):
    """How many stages a protocol has; InvalidPaper for what is no protocol."""
    fault = protocol_fault(thing)
    if fault is not None:
        word, at = fault
        raise InvalidPaper(word, at)
    return len(thing)
