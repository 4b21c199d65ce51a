"""The checker of part papers."""

from ownfears.errors import InvalidPaper
from ownfears.papersayings import is_run_to, is_saying_set
from ownfears.papertrees import asked_by, is_kept_tree, is_triple_of, tree_parts
from ownfears.places import places_with_once
from ownfears.placesets import bits_said
from ownfears.placeways import next_places
from ownfears.protocolkinds import is_setting
from ownfears.runrules import Rules
from ownfears.sayingforms import VALUES, houses_left, taking
from ownfears.usable import need


def runs_fault(setting, house, other, first, second):
    """The word and the place of the first fault in what should be two runs that part the houses; None if they do."""
    if not is_run_to(setting, first, house, "v"):
        return ("first", -1)
    if not is_run_to(setting, second, other, "w"):
        return ("second", -1)
    used = [saying[:2] for saying in first]
    shared = [place for place in places_with_once(setting) if place in used and place + ("w",) in second]
    return ("place", shared[0]) if shared else None


def is_closed(setting, rules, value, barred, sayings):
    """Whether sayings are a set with all that can be said behind it with this value, but at barred places."""
    if not is_saying_set(setting, sayings, value):
        return False
    said = bits_said(rules.places, sayings, value)
    left = next_places(rules.ways[value], said, 0)
    return all([rules.places[k] in barred for k in left])


def tree_fault(setting, house, other, tree):
    """The word and the path of the first fault in a tree by form; None if it shows that the houses are not parted."""
    rules = Rules(setting)
    onces = places_with_once(setting)
    for path, asked, part in tree_parts(tree):
        if part[0] == "case":
            if part[1] not in onces or part[1] in asked:
                return ("case", path)
            continue
        value, sayings = part
        who, step = (house, 1) if value == "v" else (other, 0)
        # By the first tree a place is given to v, and so barred to w.
        barred = asked_by(path, asked, step)
        if not is_closed(setting, rules, value, barred, sayings) or taking(setting, who, value) in sayings:
            return ("leaf", path)
    return None


def part_fault(setting, house, other, thing):
    """The word and the place of the first fault in what should be a part paper; None if it is one."""
    if is_triple_of(thing, "parted"):
        return runs_fault(setting, house, other, thing[1], thing[2])
    if is_kept_tree(thing, VALUES):
        return tree_fault(setting, house, other, thing[1])
    return ("shape", -1)


def lets_part(setting, house, other, thing):
    """The first word of a part paper; InvalidPaper for what is none."""
    need(is_setting(setting), "setting")
    need(house in houses_left(setting), "house")
    need(other in houses_left(setting), "other")
    fault = part_fault(setting, house, other, thing)
    if fault is not None:
        word, at = fault
        raise InvalidPaper(word, at)
    return thing[0]
