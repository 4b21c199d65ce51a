"""The checkers of covers, and of papers that tell whether there is one."""

from ownfears.errors import InvalidPaper
from ownfears.fitchecker import lets_fit
from ownfears.kinds import is_net, is_tuple_of
from ownfears.netbasics import family_of
from ownfears.usable import need


def first_left(houses, lots):
    """The first house that is neither in the first two lots nor in both others; None if there is none."""
    first, second, third, fourth = lots
    for house in houses:
        if house not in first and house not in second and not (house in third and house in fourth):
            return house
    return None


def cover_fault(net, thing):
    """The word and the place of the first error in what should be a cover; None if it is one."""
    houses = net[0]
    if not is_tuple_of(thing, 6):
        return ("shape", -1)
    for k in range(2):
        if thing[k] not in houses:
            return ("house", k)
    for k in range(2, 6):
        # The lots take turns: the first and the third are those of the first house.
        if thing[k] not in family_of(net, thing[k & 1]):
            return ("lot", k)
    left = first_left(houses, thing[2:])
    return None if left is None else ("left", left)


def lets_cover(net, thing):
    """The pair of the two houses of a cover; InvalidPaper for what is none of the net."""
    need(is_net(net), "net")
    fault = cover_fault(net, thing)
    if fault is not None:
        word, at = fault
        raise InvalidPaper(word, at)
    return (thing[0], thing[1])


def lets_either(net, thing):
    """The word of a paper that tells whether there are quorums that fit the net, or a cover."""
    need(is_net(net), "net")
    if not is_tuple_of(thing, 2) or thing[0] not in ("fits", "cover"):
        raise InvalidPaper("shape", -1)
    word, told = thing
    if word == "fits":
        lets_fit(net, told)
    else:
        lets_cover(net, told)
    return word
