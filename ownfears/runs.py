"""Runs: their checker, who takes a value in them, and the calm ones."""

from ownfears.errors import InvalidPaper
from ownfears.placeways import calm_order, ways_of_places
from ownfears.protocolkinds import is_setting
from ownfears.runrules import run_fault
from ownfears.sayingforms import VALUES, places_of, takers_in
from ownfears.usable import need


def lets_run(setting, thing):
    """How many sayings a run has; InvalidPaper for what is no run of the setting."""
    need(is_setting(setting), "setting")
    fault = run_fault(setting, thing)
    if fault is not None:
        word, at = fault
        raise InvalidPaper(word, at)
    return len(thing)


def takers(setting, run, value):
    """The set of the houses that take the value in the run."""
    need(is_setting(setting), "setting")
    need(run_fault(setting, run) is None, "run")
    need(value in VALUES, "value")
    return takers_in(setting, run, value)


def calm_run(setting, value):
    """The run that comes if the least saying with this value that can be said is said, again and again."""
    need(is_setting(setting), "setting")
    need(value in VALUES, "value")
    places = places_of(setting)
    order = calm_order(ways_of_places(setting, value, False))
    return tuple([places[k] + (value,) for k in order])
