"""Quorums, protocols and settings for the tests: those of the document, and drawn ones."""

import itertools
import random

from tests import plainruns as runs
from tests import plainwords as plain
from tests.smallnets import FOUR, LONE, MEEK, drawn_family, drawn_net

SENT = (("echo", True, ((("sender",),),)), ("take", True, ((("quorum", "echo"),),)))
READY = (
    SENT[0],
    ("ready", True, ((("quorum", "echo"),), (("kernel", "ready"),))),
    ("take", True, ((("quorum", "ready"),),)),
)
# A stage without any way, one that speaks of itself and of a later one, one that is free, ways of several conditions.
MIXED = (
    ("b", False, ()),
    ("late", True, ((("one", "take"), ("sender",)), (("self", "late"),))),
    ("a", False, ((("sender",), ("self", "late")), (("kernel", "a"),), (("one", "b"), ("quorum", "a")))),
    ("take", False, ((("quorum", "a"), ("one", "late")), (("kernel", "late"),), (("self", "b"),))),
)
SHORT = (("take", True, ((("sender",),),)),)
NEVER = (("take", False, ()),)

THREES = (tuple(itertools.combinations("abcd", 3)),) * 4
PAIRS = (tuple(itertools.combinations("abc", 2)),) * 3
ABC = (("a", "b", "c"), ((("b",), ("c",)), (("a", "c"),), ((),)))
ABC_QUORUMS = ((("a", "b"), ("a", "c")), (("b",),), (("a", "c"), ("b", "c")))
MEEK_QUORUMS = ((("a", "b", "d"), ("a", "c", "d")), (("b", "c"),), (("a", "c", "d"), ("b", "c", "d")), (("a", "b", "d"),))

HEARD = (FOUR, THREES, READY, "a", ("d",))
LIED = (FOUR, THREES, SENT, "d", ("d",))
ALONE = (FOUR, THREES, SENT, "a", ("a",))
BOTH = (FOUR, THREES, SENT, "a", ("a", "b"))
LATE = (FOUR, THREES, READY, "a", ("a",))
SMALL_SETTING = (ABC, ABC_QUORUMS, SENT, "a", ("c",))
ONE_SETTING = (LONE, ((("a",),),), SHORT, "a", ())
SETTINGS = [HEARD, LIED, ALONE, BOTH, LATE, SMALL_SETTING, ONE_SETTING, (LONE, ((("a",),),), SENT, "a", ("a",)),
            (MEEK, MEEK_QUORUMS, SENT, "b", ("a",)), (ABC, PAIRS, READY, "b", ("a",)), (ABC, ABC_QUORUMS, READY, "b", ()),
            (ABC, PAIRS, MIXED, "c", ()), (ABC, PAIRS, MIXED, "c", ("c",)), (ABC, ABC_QUORUMS, NEVER, "a", ("b",))]


def drawn_quorums(rng, houses, most=3):
    """Quorums of a net with these houses, whether they fit it or not."""
    families = [drawn_family(rng, houses, most) for _ in houses]
    return tuple(((rng.choice(houses),),) if family == ((),) else family for family in families)


def drawn_condition(rng, first, names):
    if rng.random() < (0.6 if first else 0.1):
        return ("sender",)
    return (rng.choice(runs.KINDS[:3] if rng.random() < 0.8 else runs.KINDS), rng.choice(names))


def drawn_protocol(rng, most=3):
    """A protocol whose stages mostly speak of earlier ones."""
    names = rng.sample(["s", "ready", "b", "take", "zz"], rng.randint(1, most))
    stages = []
    for k, name in enumerate(names):
        asked = names[:max(k, 1)] if rng.random() < 0.7 else names
        ways = [tuple(drawn_condition(rng, k == 0, asked) for _ in range(rng.choice((1, 1, 2, 3))))
                for _ in range(rng.choice((0, 1, 1, 1, 2, 2, 2, 3)))]
        stages.append((name, rng.random() < 0.5, tuple(ways)))
    return tuple(stages)


def drawn_setting(rng, greatest=4, most=3):
    """A setting, whether its quorums fit or not."""
    net = drawn_net(rng, tuple("abcdef"[:rng.randint(1, greatest)]), 3)
    fall = tuple(house for house in net[0] if rng.random() < 0.35)
    return (net, drawn_quorums(rng, net[0]), drawn_protocol(rng, most), rng.choice(net[0]), fall)


def drawn_settings(seed, many, greatest=4, most=3, places=9):
    """Settings with at most so many places, so that all their runs can be gone through."""
    rng = random.Random(seed)
    found = []
    while len(found) < many:
        setting = drawn_setting(rng, greatest, most)
        if len(runs.all_sayings(setting, ("v",))) <= places:
            found.append(setting)
    return found


assert all(runs.is_setting(setting) for setting in SETTINGS)
assert plain.are_quorums(MEEK, MEEK_QUORUMS)
