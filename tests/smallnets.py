"""Nets for the tests: those of the document, all small ones, and drawn ones."""

import itertools
import random

from tests import plainwords as plain

ONES = (("a",), ("b",), ("c",), ("d",))
FOUR = (("a", "b", "c", "d"), (ONES, ONES, ONES, ONES))
OWN = (("a", "b", "c", "d"), ((("b",), ("c", "d")), ONES, ONES, ONES))
MEEK = (("a", "b", "c", "d"), ((("b",), ("c",)), (("a", "d"),), (("a",), ("b",)), (("c",),)))
TWO = (("a", "b"), ((("b",),), (("a",),)))
LONE = (("a",), (((),),))
LOST = (("a",), ((("a",),),))
WIDE = (("a", "b", "c"), ((("a", "b", "c"),), ((),), (("a",), ("b", "c"))))
NAMED = (("ab", "abc", "b", "zzzzzzzz"), ((("ab", "b"), ("abc",)), ((),), (("zzzzzzzz",),), (("ab",), ("b",))))

NINE_HOUSES = tuple("abcdefghi")
PAIRS = tuple(itertools.combinations("abcdefg", 2))[:20]
# Nine houses, one of them with twenty lots.
NINE = (NINE_HOUSES, (PAIRS,) + ((("a", "b", "c"), ("d",)),) * 7 + (((),),))
# Nine houses with twenty lots each, and no cover.
CALM_PAIRS = tuple(itertools.combinations(NINE_HOUSES, 2))[:20]
CALM = (NINE_HOUSES, (CALM_PAIRS,) * 9)

SPECIAL = [FOUR, OWN, MEEK, TWO, LONE, LOST, WIDE, NAMED, NINE, CALM]


def families(houses):
    """All families of lots of the houses, by trying everything."""
    lots = [tuple(lot) for lot in plain.subsets(houses)]
    found = []
    for size in range(1, len(lots) + 1):
        some = [tuple(sorted(f)) for f in itertools.combinations(lots, size) if plain.is_family(houses, tuple(sorted(f)))]
        found += some
        if not some:
            break
    return sorted(found)


def all_nets(houses):
    """All nets of these houses."""
    return [(houses, fears) for fears in itertools.product(families(houses), repeat=len(houses))]


def all_quorums(houses):
    """All quorums of a net with these houses."""
    own = [family for family in families(houses) if () not in family]
    return list(itertools.product(own, repeat=len(houses)))


def drawn_family(rng, houses, most):
    """A family of at most so many lots."""
    lots = [tuple(x for x in houses if rng.random() < rng.choice((0.2, 0.4, 0.6))) for _ in range(rng.randint(1, most))]
    return plain.maximal(lots)


def drawn_net(rng, houses, most=4):
    """A net of these houses."""
    return (houses, tuple(drawn_family(rng, houses, most) for _ in houses))


def drawn_nets(seed, many, least=1, greatest=5):
    """Nets of several sizes."""
    rng = random.Random(seed)
    return [drawn_net(rng, tuple("abcdefghi"[:rng.randint(least, greatest)])) for _ in range(many)]


ONE_HOUSE = all_nets(("a",))
TWO_HOUSES = all_nets(("a", "b"))
SMALL = ONE_HOUSE + TWO_HOUSES
