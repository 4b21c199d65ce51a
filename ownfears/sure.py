"""What is heard for sure behind a run, and what can be said at all."""

from ownfears.placesets import bits_said, sayings_in
from ownfears.placeways import all_behind, ways_of_places
from ownfears.protocolkinds import is_setting
from ownfears.runrules import is_run_with
from ownfears.sayingforms import VALUES, places_of
from ownfears.usable import need


def sure_sayings(setting, run):
    """The set of the sayings that are heard for sure behind those of the run, these too."""
    need(is_setting(setting), "setting")
    need(is_run_with(setting, run, "v"), "run")
    places = places_of(setting)
    heard = all_behind(ways_of_places(setting, "v", True), bits_said(places, run, "v"), 0)
    return sayings_in(places, heard, "v")


def all_sayable(setting, value):
    """The set of all sayings that stand in some run all of whose sayings have this value."""
    need(is_setting(setting), "setting")
    need(value in VALUES, "value")
    return sayings_in(places_of(setting), all_behind(ways_of_places(setting, value, False), 0, 0), value)
