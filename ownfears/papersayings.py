"""Runs and sets of sayings of one value, as they stand in part papers and leave papers."""

from ownfears.lotsets import ascend
from ownfears.runrules import is_run_with
from ownfears.sayingforms import is_saying_of, taking


def is_saying_with(setting, thing, value):
    """Whether thing is a saying of the setting with this value."""
    return is_saying_of(setting, thing) and thing[2] == value


def is_saying_set(setting, thing, value):
    """Whether thing is a set of sayings of the setting with this value."""
    return isinstance(thing, tuple) and all([is_saying_with(setting, one, value) for one in thing]) and ascend(thing)


def is_run_to(setting, thing, house, value):
    """Whether thing is a run of sayings with this value alone in which the house takes it."""
    return is_run_with(setting, thing, value) and taking(setting, house, value) in thing
