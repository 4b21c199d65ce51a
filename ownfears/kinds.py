"""Whether a value is an integer, a name, a net and the like."""

from ownfears.lotsets import ascend, is_family_of, is_lot_of
from ownfears.usable import need


def is_integer(thing):
    """Whether thing is an int that is not a bool."""
    return isinstance(thing, int) and not isinstance(thing, bool)


def is_number(thing):
    """Whether thing is an integer that is at least 0."""
    return is_integer(thing) and thing >= 0


def is_name(thing):
    """Whether thing is a string of one to eight lowercase letters."""
    if not isinstance(thing, str) or not 1 <= len(thing) <= 8:
        return False
    return all(["a" <= letter <= "z" for letter in thing])


def is_name_set(thing):
    """Whether thing is a set of names, of whatever houses, perhaps of none."""
    if not isinstance(thing, tuple):
        return False
    return all([is_name(name) for name in thing]) and ascend(thing)


def are_houses(thing):
    """Whether thing is a nonempty set of names."""
    return is_name_set(thing) and thing != ()


def is_lot(houses, thing):
    """Whether thing is a lot of these houses."""
    need(are_houses(houses), "houses")
    return is_lot_of(houses, thing)


def is_family(houses, thing):
    """Whether thing is a family of lots of these houses."""
    need(are_houses(houses), "houses")
    return is_family_of(houses, thing)


def is_tuple_of(thing, size):
    """Whether thing is a tuple of so many elements."""
    return isinstance(thing, tuple) and len(thing) == size


def is_net(thing):
    """Whether thing is a net."""
    if not is_tuple_of(thing, 2):
        return False
    houses, fears = thing
    if not are_houses(houses) or not is_tuple_of(fears, len(houses)):
        return False
    return all([is_family_of(houses, family) for family in fears])
