"""The first fault of what should be a run."""

from ownfears.placeways import comes_by, ways_of_places
from ownfears.protocolparts import stage_named
from ownfears.sayingforms import VALUES, is_saying_of, places_of


def bars_once(setting, said, saying):
    """Whether the house has said the other value in this stage, which is once."""
    house, name, value = saying
    other = "w" if value == "v" else "v"
    return stage_named(setting[2], name)[1] and (house, name, other) in said


def run_fault(setting, thing):
    """The word and the place of the first fault in what should be a run of the setting; None if it is one."""
    if not isinstance(thing, tuple):
        return ("shape", -1)
    places = places_of(setting)
    ways = {value: ways_of_places(setting, value, False) for value in VALUES}
    heard = {value: 0 for value in VALUES}
    for k, saying in enumerate(thing):
        if not is_saying_of(setting, saying):
            return ("saying", k)
        house, name, value = saying
        at = places.index((house, name))
        if saying in thing[:k]:
            return ("said", k)
        if bars_once(setting, thing[:k], saying):
            return ("once", k)
        if not comes_by(ways[value][at], heard[value]):
            return ("ways", k)
        heard[value] = heard[value] + (1 << at)
    return None
