"""The checker of leave papers."""

from ownfears.errors import InvalidPaper
from ownfears.papersayings import is_run_to, is_saying_set, is_saying_with
from ownfears.papertrees import asked_by, is_kept_tree, is_triple_of, tree_parts
from ownfears.placesets import bits_said, has
from ownfears.placeways import comes_by, next_places, ways_of_places
from ownfears.protocolkinds import is_setting
from ownfears.sayingforms import houses_left, places_of, taking
from ownfears.usable import need


def is_heard_set(setting, sayings, run):
    """Whether sayings are a set of v with those of the run, and with all that is heard for sure behind the set."""
    if not is_saying_set(setting, sayings, "v") or not all([saying in sayings for saying in run]):
        return False
    said = bits_said(places_of(setting), sayings, "v")
    return next_places(ways_of_places(setting, "v", True), said, 0) == []


def run_paper_fault(setting, house, other, run, sayings):
    """The word and the place of the first fault in what should be a run that leaves the house; None if it does."""
    if not is_run_to(setting, run, other, "v"):
        return ("run", -1)
    if not is_heard_set(setting, sayings, run) or taking(setting, house, "v") in sayings:
        return ("sayings", -1)
    return None


def is_closed(setting, barred, sayings):
    """Whether sayings are a set of v with all that can be said behind it, but what is barred."""
    if not is_saying_set(setting, sayings, "v"):
        return False
    places = places_of(setting)
    said = bits_said(places, sayings, "v")
    left = next_places(ways_of_places(setting, "v", False), said, 0)
    return all([places[k] + ("v",) in barred for k in left])


def are_heard(setting, heard, sayings):
    """Whether each of the sayings of v is heard, or heard for sure in one step behind these and those ahead of it."""
    places = places_of(setting)
    ways = ways_of_places(setting, "v", True)
    said = bits_said(places, heard, "v")
    for saying in sayings:
        if not is_saying_with(setting, saying, "v"):
            return False
        k = places.index(saying[:2])
        if not has(said, k) and not comes_by(ways[k], said):
            return False
        said = said | 1 << k
    return True


def tree_fault(setting, house, other, tree):
    """The word and the path of the first fault in a tree by form; None if it shows that the house is not left."""
    for path, asked, part in tree_parts(tree):
        if part[0] == "case":
            if not is_saying_with(setting, part[1], "v") or part[1] in asked:
                return ("case", path)
            continue
        word, sayings = part
        if word == "closed":
            barred = asked_by(path, asked, 0)
            holds = is_closed(setting, barred, sayings) and taking(setting, other, "v") not in sayings
        else:
            heard = asked_by(path, asked, 1)
            holds = are_heard(setting, heard, sayings) and sayings[-1:] == (taking(setting, house, "v"),)
        if not holds:
            return ("leaf", path)
    return None


def leave_fault(setting, house, other, thing):
    """The word and the place of the first fault in what should be a leave paper; None if it is one."""
    if is_triple_of(thing, "left"):
        return run_paper_fault(setting, house, other, thing[1], thing[2])
    if is_kept_tree(thing, ("closed", "sure")):
        return tree_fault(setting, house, other, thing[1])
    return ("shape", -1)


def lets_leave(setting, house, other, thing):
    """The first word of a leave paper; InvalidPaper for what is none."""
    need(is_setting(setting), "setting")
    need(house in houses_left(setting), "house")
    need(other in houses_left(setting), "other")
    fault = leave_fault(setting, house, other, thing)
    if fault is not None:
        word, at = fault
        raise InvalidPaper(word, at)
    return thing[0]
