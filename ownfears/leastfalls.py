"""The least falls in which houses are parted or left, and the greatest ones in which they surely hear."""

from ownfears.falls import falls_without
from ownfears.leaving import can_leave, hears_sender, leave_paper
from ownfears.lotsets import greatest, without
from ownfears.netbasics import common_parts, family_of, has_one_within
from ownfears.parting import can_part, part_paper
from ownfears.protocolkinds import need_parts
from ownfears.usable import need


def is_bad(setting, kind, house, other):
    """Whether the two houses can be parted, or the first one left by the second."""
    return can_part(setting, house, other) if kind == "parting" else can_leave(setting, house, other)


def least_bad(parts, kind, house, other):
    """The set of the least falls, without the two houses, that are bad for them."""
    bad = []
    for fall in falls_without(parts[0], house, other):
        # What is bad in a fall is so in each that includes it.
        if not has_one_within(bad, fall) and is_bad(parts + (fall,), kind, house, other):
            bad.append(fall)
    return tuple(sorted(bad))


def parting_falls(net, quorums, protocol, sender, house, other):
    """The set of the least falls, without the two houses, in which they can be parted."""
    need_parts(net, quorums, protocol, sender)
    need(house in net[0], "house")
    need(other in net[0], "other")
    return least_bad((net, quorums, protocol, sender), "parting", house, other)


def leaving_falls(net, quorums, protocol, sender, house, other):
    """The set of the least falls, without the two houses, in which the house can be left by the other one."""
    need_parts(net, quorums, protocol, sender)
    need(house in net[0], "house")
    need(other in net[0], "other")
    return least_bad((net, quorums, protocol, sender), "leaving", house, other)


def hearing_falls(net, quorums, protocol, sender, house):
    """The set of the greatest falls in which the house surely hears the sender."""
    need_parts(net, quorums, protocol, sender)
    need(house in net[0], "house")
    falls = falls_without(net, house, sender)
    return greatest([fall for fall in falls if hears_sender((net, quorums, protocol, sender, fall), house)])


def is_safe_pair(parts, house, other):
    """Whether the two houses cannot be parted, in either order, in any fall with which both reckon."""
    net = parts[0]
    both = common_parts(family_of(net, house), family_of(net, other))
    # Who cannot be parted in a fall cannot in any that lies within it.
    settings = [parts + (fall,) for fall in greatest([without(lot, (house, other)) for lot in both])]
    return not any([can_part(one, house, other) or can_part(one, other, house) for one in settings])


def safe_pairs(net, quorums, protocol, sender):
    """The set of the pairs of different houses that cannot be parted in any fall with which both reckon."""
    need_parts(net, quorums, protocol, sender)
    houses = net[0]
    pairs = [(house, other) for k, house in enumerate(houses) for other in houses[k + 1:]]
    return tuple([pair for pair in pairs if is_safe_pair((net, quorums, protocol, sender), pair[0], pair[1])])


def with_papers(parts, kind, house, other, falls):
    """The tuple of the falls, each in a pair with the part paper, or the leave paper, of the two houses in it."""
    if kind == "parting":
        return tuple([(fall, part_paper(parts + (fall,), house, other)) for fall in falls])
    return tuple([(fall, leave_paper(parts + (fall,), house, other)) for fall in falls])


def falls_paper(net, quorums, protocol, sender, kind, house, other):
    """A paper with the least falls that are bad for the two houses, and the greatest others, each with a paper."""
    need_parts(net, quorums, protocol, sender)
    need(kind in ("parting", "leaving"), "kind")
    need(house in net[0], "house")
    need(other in net[0], "other")
    parts = (net, quorums, protocol, sender)
    bad = least_bad(parts, kind, house, other)
    good = greatest([fall for fall in falls_without(net, house, other) if not has_one_within(bad, fall)])
    bads = with_papers(parts, kind, house, other, bad)
    return (kind, house, other, bads, with_papers(parts, kind, house, other, good))
