"""How the tests compare values, and catch errors."""

from ownfears import errors

FIELDS = {
    errors.InvalidPaper: ("word", "at"),
    errors.NotUsable: ("word", "at"),
    errors.NotPossible: ("at",),
    errors.InvalidEvent: ("event", "reason"),
    errors.NothingToUndo: ("steps",),
    errors.Broken: ("done",),
    errors.InvalidText: ("line", "column"),
    errors.InvalidRow: ("row",),
}


def same(one, other):
    """Whether two values are equal and of the same classes throughout (True is not 1, a list no tuple)."""
    if type(one) is not type(other):
        return False
    if isinstance(one, (tuple, list)):
        return len(one) == len(other) and all(same(a, b) for a, b in zip(one, other))
    if isinstance(one, dict):
        return same(list(one.items()), list(other.items()))
    return one == other


def told(error):
    """The class of an error, and its fields."""
    kind = type(error)
    return (kind.__name__,) + tuple(getattr(error, field) for field in FIELDS[kind])


def outcome(call, *args, **more):
    """What a call returns, as ('returns', value), or what it raises, as told has it."""
    try:
        return ("returns", call(*args, **more))
    except errors.FearError as error:
        return told(error)
