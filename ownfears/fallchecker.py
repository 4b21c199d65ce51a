"""The checker of falls papers."""

from ownfears.errors import InvalidPaper
from ownfears.falls import falls_without
from ownfears.kinds import is_tuple_of
from ownfears.leavechecker import leave_fault
from ownfears.lotsets import is_lot_of, least
from ownfears.netbasics import has_one_within, within_one
from ownfears.partchecker import part_fault
from ownfears.protocolkinds import need_parts

WORDS = {"parting": "parted", "leaving": "left"}


def are_pairs(thing):
    """Whether thing is a tuple of pairs of any values."""
    return isinstance(thing, tuple) and all([is_tuple_of(pair, 2) for pair in thing])


def has_falls_shape(net, thing):
    """Whether thing is a quintuple of a kind, two houses of the net, and two tuples of pairs."""
    if not is_tuple_of(thing, 5):
        return False
    kind, house, other, bad, good = thing
    if kind not in ("parting", "leaving") or house not in net[0] or other not in net[0]:
        return False
    return are_pairs(bad) and are_pairs(good)


def is_paper_with(setting, kind, house, other, paper, word):
    """Whether paper is a paper of this kind for the two houses, and its first word is this one."""
    if kind == "parting":
        fault = part_fault(setting, house, other, paper)
    else:
        fault = leave_fault(setting, house, other, paper)
    return fault is None and paper[0] == word


def check_falls(parts, thing, m, word):
    """Raise InvalidPaper for the first of the bad or good falls that is none, or whose paper has another word."""
    kind, house, other = thing[:3]
    for k, (fall, paper) in enumerate(thing[3 + m]):
        if not is_lot_of(parts[0][0], fall) or house in fall or other in fall:
            raise InvalidPaper("fall", (m, k))
        if not is_paper_with(parts + (fall,), kind, house, other, paper, word):
            raise InvalidPaper("paper", (m, k))


def lets_falls(net, quorums, protocol, sender, thing):
    """The set of the least falls that the paper shows to be bad for its two houses; InvalidPaper for what is none."""
    need_parts(net, quorums, protocol, sender)
    if not has_falls_shape(net, thing):
        raise InvalidPaper("shape", -1)
    check_falls((net, quorums, protocol, sender), thing, 0, WORDS[thing[0]])
    check_falls((net, quorums, protocol, sender), thing, 1, "kept")
    bad = [fall for fall, _ in thing[3]]
    good = [fall for fall, _ in thing[4]]
    for fall in falls_without(net, thing[1], thing[2]):
        if not has_one_within(bad, fall) and not within_one(good, fall):
            raise InvalidPaper("left", fall)
    return least(bad)
