"""The search for two runs that part two houses, or for a tree that shows that there are none.

Sets of places are integers, as in placesets. A place that is given to a value is barred to the other one.
"""

from ownfears.places import places_with_once
from ownfears.placesets import has, sayings_at, sayings_in
from ownfears.placeways import all_behind, least_use, steps_behind, ways_of_places
from ownfears.sayingforms import places_of


class Parting:
    """The question whether two houses are parted: where they take, what is once, and what comes by which ways."""

    def __init__(self, setting, house, other):
        last = setting[2][-1][0]
        onces = places_with_once(setting)
        self.places = places_of(setting)
        self.onces = sum([1 << k for k, place in enumerate(self.places) if place in onces])
        self.one = self.places.index((house, last))
        self.two = self.places.index((other, last))
        self.first = ways_of_places(setting, "v", False)
        self.second = ways_of_places(setting, "w", False)


def least_gift(parting, to_v, run):
    """A list of once places of the run that bar the other house from w if they are given to v; none can be spared."""
    gift = run & parting.onces & ~to_v
    order = [k for k in range(len(parting.places)) if has(gift, k)]
    for k in order:
        if not has(all_behind(parting.second, 0, to_v | gift & ~(1 << k)), parting.two):
            gift = gift & ~(1 << k)
    return [k for k in order if has(gift, k)]


def tree_or_runs(parting, to_v, to_w):
    """A tree for the cases with these places given; or "parted" and the places of two runs that part the houses."""
    reached = all_behind(parting.first, 0, to_w)
    if not has(reached, parting.one):
        return ("v", reached)
    run = least_use(parting.first, parting.one, to_w)
    barred = to_v | run & parting.onces
    if has(all_behind(parting.second, 0, barred), parting.two):
        return ("parted", run, least_use(parting.second, parting.two, barred))
    asked = least_gift(parting, to_v, run)
    seconds = []
    for k in asked:
        second = tree_or_runs(parting, to_v, to_w | 1 << k)
        if second[0] == "parted":
            return second
        seconds.append(second)
        to_v = to_v | 1 << k
    tree = ("w", all_behind(parting.second, 0, to_v))
    for k, second in reversed(list(zip(asked, seconds))):
        tree = ("case", k, tree, second)
    return tree


def written_runs(parting, first, second):
    """The paper for the two runs that part the houses: their sayings in order."""
    one = steps_behind(parting.first, 0, ~first)
    two = steps_behind(parting.second, 0, ~second)
    return ("parted", sayings_at(parting.places, one, "v"), sayings_at(parting.places, two, "w"))


def written_tree(parting, tree):
    """The tree with places and sayings in the place of numbers."""
    if tree[0] == "case":
        _, k, first, second = tree
        return ("case", parting.places[k], written_tree(parting, first), written_tree(parting, second))
    value, places = tree
    return (value, sayings_in(parting.places, places, value))
