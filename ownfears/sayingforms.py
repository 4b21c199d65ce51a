"""Sayings, and the places at which they are said; settings are known to be usable."""

from ownfears.kinds import is_name, is_tuple_of
from ownfears.lotsets import without
from ownfears.protocolparts import stage_named

VALUES = ("v", "w")


def is_saying_by_form(thing):
    """Whether thing is a saying of some setting."""
    return is_tuple_of(thing, 3) and is_name(thing[0]) and is_name(thing[1]) and thing[2] in VALUES


def houses_left(setting):
    """The set of the houses that have not fallen."""
    net, _, _, _, fall = setting
    return without(net[0], fall)


def places_of(setting):
    """The list of the pairs of a house that has not fallen and the name of a stage, ascending."""
    names = sorted([stage[0] for stage in setting[2]])
    return [(house, name) for house in houses_left(setting) for name in names]


def is_saying_of(setting, thing):
    """Whether thing is a saying of the setting."""
    if not is_tuple_of(thing, 3) or thing[0] not in houses_left(setting):
        return False
    return stage_named(setting[2], thing[1]) is not None and thing[2] in VALUES


def taking(setting, house, value):
    """The saying by which the house takes the value."""
    return (house, setting[2][-1][0], value)


def takers_in(setting, run, value):
    """The set of the houses that take the value in the run."""
    return tuple([house for house in houses_left(setting) if taking(setting, house, value) in run])
