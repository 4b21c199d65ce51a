"""Places: houses and stages at which only one value can be said."""

from ownfears.protocolkinds import is_setting
from ownfears.protocolparts import stage_named
from ownfears.runrules import run_fault
from ownfears.sayingforms import places_of
from ownfears.usable import need


def places_with_once(setting):
    """The set of the places of a usable setting that are once."""
    return tuple([place for place in places_of(setting) if stage_named(setting[2], place[1])[1]])


def once_places(setting):
    """The set of the places with a house that has not fallen and a stage that is once."""
    need(is_setting(setting), "setting")
    return places_with_once(setting)


def used_places(setting, run):
    """The set of those of them at which the run has a saying."""
    need(is_setting(setting), "setting")
    need(run_fault(setting, run) is None, "run")
    used = [(house, name) for house, name, _ in run]
    return tuple([place for place in places_with_once(setting) if place in used])
