"""The ways by which something comes to be said, or heard for sure, at the places of a setting.

Sets of places are integers, as in placesets; place k is that of places_of. The ways of a place are a list. A way is a
list of conditions. A condition is a list of sets of places: it holds where one of these sets is there.
"""

from ownfears.kernelsearch import least_kernels
from ownfears.lotsets import common, least, without
from ownfears.netbasics import family_of
from ownfears.placesets import has
from ownfears.protocolparts import stage_named
from ownfears.sayingforms import houses_left, places_of


def lots_asked(setting, house, kind, sure):
    """Those lots of houses one of which has to say something, so that a condition of this kind holds for the house."""
    net, quorums, _, _, fall = setting
    left = houses_left(setting)
    if kind == "self":
        return [(house,)]
    if kind == "one":
        # Who fell says whatever helps, but nothing that is heard for sure.
        return [(one,) for one in left] if sure or fall == () else [()]
    family = family_of((net[0], quorums), house)
    lots = least_kernels(family) if kind == "kernel" else family
    if sure:
        return [lot for lot in lots if common(lot, fall) == ()]
    return list(least([without(lot, fall) for lot in lots]))


def sender_helps(setting, value, sure):
    """Whether the sender lets this value be said, or heard for sure."""
    fallen = setting[3] in setting[4]
    return not fallen if sure else fallen or value == "v"


def asked_lots(setting, sure):
    """A dict with the lots of lots_asked for each house that has not fallen, and each kind that the protocol has."""
    conditions = [condition for stage in setting[2] for way in stage[2] for condition in way]
    kinds = sorted(set([condition[0] for condition in conditions if len(condition) == 2]))
    return {(house, kind): lots_asked(setting, house, kind, sure) for house in houses_left(setting) for kind in kinds}


def places_asked(bits, lots, house, condition, helps):
    """The list of the sets of places of the condition for the house; bits has that of each single place."""
    if len(condition) == 1:
        return [0] if helps else []
    kind, name = condition
    return [sum([bits[(one, name)] for one in lot]) for lot in lots[(house, kind)]]


def ways_of_places(setting, value, sure):
    """The list of the ways of each place, for the value to be said there, or to be heard for sure."""
    places = places_of(setting)
    bits = {place: 1 << k for k, place in enumerate(places)}
    lots = asked_lots(setting, sure)
    helps = sender_helps(setting, value, sure)
    found = []
    for house, name in places:
        ways = stage_named(setting[2], name)[2]
        found.append([[places_asked(bits, lots, house, condition, helps) for condition in way] for way in ways])
    return found


def comes_by(ways, said):
    """Whether one of these ways has conditions that all hold where this is said."""
    for way in ways:
        if all([any([part & said == part for part in parts]) for parts in way]):
            return True
    return False


def next_places(ways, said, barred):
    """The list of the places, neither said nor barred, that come in one step."""
    taken = said | barred
    return [k for k, own in enumerate(ways) if not has(taken, k) and comes_by(own, said)]


def all_behind(ways, said, barred):
    """All that is said and what comes behind it, step by step, but at barred places."""
    while True:
        came = next_places(ways, said, barred)
        if not came:
            return said
        said = said + sum([1 << k for k in came])


def steps_behind(ways, said, barred):
    """The list of the places that come behind what is said, but barred ones, in an order in which they come."""
    order = []
    while True:
        came = next_places(ways, said, barred)
        if not came:
            return order
        order = order + came
        said = said + sum([1 << k for k in came])


def least_use(ways, at, barred):
    """The set of the places of a run without barred ones that has place at; it could spare none of them."""
    # What comes late is spared first: much of it leads nowhere.
    for k in steps_behind(ways, 0, barred)[::-1]:
        if has(all_behind(ways, 0, barred | 1 << k), at):
            barred = barred | 1 << k
    return all_behind(ways, 0, barred)


def calm_order(ways):
    """The list of the places that come if the least one that can come does, again and again."""
    order = []
    said = 0
    while True:
        came = next_places(ways, said, 0)
        if not came:
            return order
        order.append(came[0])
        said = said | 1 << came[0]
