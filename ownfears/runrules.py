"""What can be said behind a run, and the first fault of what should be a run; settings are known to be usable."""

from ownfears.placesets import bits_said, has
from ownfears.placeways import comes_by, ways_of_places
from ownfears.protocolparts import stage_named
from ownfears.sayingforms import VALUES, is_saying_of, places_of

OTHER_VALUES = {"v": "w", "w": "v"}


class Rules:
    """The places of a setting, which of them are once, and the ways by which each value comes to be said there."""

    def __init__(self, setting):
        self.places = places_of(setting)
        self.onces = [stage_named(setting[2], name)[1] for _, name in self.places]
        self.ways = {value: ways_of_places(setting, value, False) for value in VALUES}


def said_in(rules, run):
    """A dict with the set of the places at which the run says each value."""
    return {value: bits_said(rules.places, run, value) for value in VALUES}


def way_holds(rules, said, saying):
    """Whether a way of the stage of the saying holds for its house, behind what is said."""
    value = saying[2]
    return comes_by(rules.ways[value][rules.places.index(saying[:2])], said[value])


def saying_fault(rules, said, saying):
    """Why the saying cannot be said behind what is said: "said", "once" or "ways"; None if it can."""
    house, name, value = saying
    k = rules.places.index((house, name))
    if has(said[value], k):
        return "said"
    if rules.onces[k] and has(said[OTHER_VALUES[value]], k):
        return "once"
    return None if way_holds(rules, said, saying) else "ways"


def every_saying(rules):
    """The list of the sayings of the setting, ascending."""
    return [place + (value,) for place in rules.places for value in VALUES]


def sayings_behind(rules, run):
    """The list of the sayings that can be said behind the run, ascending."""
    said = said_in(rules, run)
    return [saying for saying in every_saying(rules) if saying_fault(rules, said, saying) is None]


def sayings_blocked(rules, run):
    """The list of the sayings that cannot be said behind the run by once alone, ascending."""
    said = said_in(rules, run)
    barred = [saying for saying in every_saying(rules) if saying_fault(rules, said, saying) == "once"]
    return [saying for saying in barred if way_holds(rules, said, saying)]


def run_fault(setting, thing):
    """The word and the place of the first fault in what should be a run of the setting; None if it is one."""
    if not isinstance(thing, tuple):
        return ("shape", -1)
    rules = Rules(setting)
    for k, saying in enumerate(thing):
        if not is_saying_of(setting, saying):
            return ("saying", k)
        word = saying_fault(rules, said_in(rules, thing[:k]), saying)
        if word is not None:
            return (word, k)
    return None


def is_run_with(setting, thing, value):
    """Whether thing is a run of the setting all of whose sayings have this value."""
    return run_fault(setting, thing) is None and all([saying[2] == value for saying in thing])
