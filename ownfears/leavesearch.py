"""The search for a run behind which a house is left, or for a tree that shows that there is none.

Sets of places are integers, as in placesets; what is said and heard has the value "v" throughout.
"""

from ownfears.placesets import has, sayings_at, sayings_in
from ownfears.placeways import all_behind, least_use, steps_behind, ways_of_places
from ownfears.sayingforms import places_of


class Leave:
    """The question whether a house is left by another one: where both take, and what comes by which ways."""

    def __init__(self, setting, house, other):
        last = setting[2][-1][0]
        self.places = places_of(setting)
        self.one = self.places.index((house, last))
        self.two = self.places.index((other, last))
        self.said = ways_of_places(setting, "v", False)
        self.sure = ways_of_places(setting, "v", True)


def hears(leave, heard):
    """Whether it is heard for sure, behind these places, that the house takes."""
    return has(all_behind(leave.sure, heard, 0), leave.one)


def least_cause(leave, heard, run):
    """A list of places of the run that, with what is heard, let the house surely take; none of them can be spared."""
    cause = run & ~heard
    # What comes early is spared first: what comes late shows the same with fewer cases.
    order = [k for k in steps_behind(leave.said, 0, 0) if has(cause, k)]
    for k in order:
        if hears(leave, heard | cause & ~(1 << k)):
            cause = cause & ~(1 << k)
    return [k for k in order if has(cause, k)]


def tree_or_run(leave, heard, barred):
    """A tree for the cases with these places heard and barred; or "left" and the places of a run that leaves it."""
    reached = all_behind(leave.said, 0, barred)
    if not has(reached, leave.two):
        return ("closed", reached)
    run = least_use(leave.said, leave.two, barred)
    if not hears(leave, run):
        return ("left", run)
    asked = least_cause(leave, heard, run)
    firsts = []
    for k in asked:
        first = tree_or_run(leave, heard, barred | 1 << k)
        if first[0] == "left":
            return first
        firsts.append(first)
        heard = heard | 1 << k
    tree = ("sure", heard)
    for k, first in reversed(list(zip(asked, firsts))):
        tree = ("case", k, first, tree)
    return tree


def sure_chain(leave, heard):
    """The sayings that are heard for sure behind these places one after the other, until the house takes."""
    if has(heard, leave.one):
        return sayings_at(leave.places, [leave.one], "v")
    order = steps_behind(leave.sure, heard, 0)
    return sayings_at(leave.places, order[:order.index(leave.one) + 1], "v")


def written_tree(leave, tree):
    """The tree with sayings in the place of places."""
    if tree[0] == "case":
        _, k, first, second = tree
        return ("case", leave.places[k] + ("v",), written_tree(leave, first), written_tree(leave, second))
    word, places = tree
    return (word, sayings_in(leave.places, places, "v") if word == "closed" else sure_chain(leave, places))


def written_run(leave, run):
    """The paper for a run that leaves the house: its sayings in order, and all that is heard for sure behind it."""
    order = steps_behind(leave.said, 0, ~run)
    heard = all_behind(leave.sure, run, 0)
    return ("left", sayings_at(leave.places, order, "v"), sayings_in(leave.places, heard, "v"))
