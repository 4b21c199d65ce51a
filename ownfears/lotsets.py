"""Sets as ascending tuples: lots, their parts, and the greatest of several."""


def ascend(things):
    """Whether each of the things is greater than the one before."""
    return all([one < after for one, after in zip(things, things[1:])])


def is_lot_of(houses, thing):
    """Whether thing is a lot of these houses, which are taken to be houses."""
    if not isinstance(thing, tuple):
        return False
    # The names come first: only of names is it known that they can be compared.
    return all([name in houses for name in thing]) and ascend(thing)


def is_family_of(houses, thing):
    """Whether thing is a family of lots of these houses, which are taken to be houses."""
    if not isinstance(thing, tuple) or thing == ():
        return False
    return all([is_lot_of(houses, lot) for lot in thing]) and greatest(thing) == thing


def includes(lot, part):
    """Whether all names of part are in the lot."""
    for name in part:
        if name not in lot:
            return False
    return True


def common(lot, other):
    """The set of the names in both."""
    return tuple([name for name in lot if name in other])


def without(lot, part):
    """The set of the names of the lot that are not in part."""
    return tuple([name for name in lot if name not in part])


def greatest(lots):
    """Those of the lots, equal ones counted once, that lie within no other one, ascending."""
    once = sorted(set(lots))
    return tuple([lot for lot in once if not any([includes(other, lot) for other in once if other != lot])])


def least(lots):
    """Those of the lots, equal ones counted once, that include no other one, ascending."""
    once = sorted(set(lots))
    return tuple([lot for lot in once if not any([includes(lot, other) for other in once if other != lot])])


def sets_of(names, size):
    """A list of all sets of so many of the names, ascending."""
    if size == 0:
        return [()]
    return [(name,) + rest for k, name in enumerate(names) for rest in sets_of(names[k + 1:], size - 1)]
