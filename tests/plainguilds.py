"""The definitions of quorums that fit, kernels, guilds and good falls in their plainest form, by which the tests judge."""

import functools

from tests import plainwords as plain


def quorums_of(net, quorums, house):
    return dict(zip(net[0], quorums))[house]


def missed_lots(net, quorums):
    """All pairs of a house and a lot of it that leaves it no quorum, in order."""
    return [(house, lot) for house in net[0] for lot in plain.lots(net, house)
            if all(set(lot) & set(q) for q in quorums_of(net, quorums, house))]


def torn_pairs(net, quorums):
    """All quorums of two houses that have in common only houses of a lot with which both reckon."""
    return [(house, other, q, r, tuple(sorted(set(q) & set(r))))
            for house in net[0] for other in net[0] if house <= other
            for q in quorums_of(net, quorums, house) for r in quorums_of(net, quorums, other)
            if all(plain.reckons(net, x, set(q) & set(r)) for x in (house, other))]


def has_one_of_each(lot, family):
    return all(set(lot) & set(q) for q in family)


@functools.lru_cache(maxsize=None)
def kernels(net, quorums, house):
    """The kernels of the house, by trying all lots."""
    family = quorums_of(net, quorums, house)
    hitting = [lot for lot in plain.subsets(net[0]) if has_one_of_each(lot, family)]
    return tuple(sorted(lot for lot in hitting if not any(set(other) < set(lot) for other in hitting)))


def state(net, fall, house):
    if house in fall:
        return "fallen"
    return "wise" if plain.reckons(net, house, fall) else "naive"


def is_guild(net, quorums, fall, v):
    return plain.is_lot(net[0], v) and all(
        state(net, fall, house) == "wise" and any(set(q) <= set(v) for q in quorums_of(net, quorums, house)) for house in v)


def guilds(net, quorums, fall):
    """All guilds in the fall, by trying all lots."""
    return [lot for lot in plain.subsets(net[0]) if is_guild(net, quorums, fall, lot)]


def is_good(net, quorums, fall, house):
    return any(house in guild for guild in guilds(net, quorums, fall))


def round_errors(net, quorums, fall, guild, rounds):
    """The errors of rounds, in order, as far as they can be told."""
    ahead = []
    for k, lot in enumerate(rounds):
        if not plain.is_lot(net[0], lot) or not lot:
            yield ("lot", k)
            return
        if set(lot) & (set(guild) | set(ahead)):
            yield ("twice", k)
        for house in lot:
            if state(net, fall, house) == "wise" and any(not set(q) & set(ahead) for q in quorums_of(net, quorums, house)):
                yield ("round", k)
        ahead += lot


def is_two_tuples(v):
    return plain.is_pair(v) and type(v[0]) is tuple and type(v[1]) is tuple


def guild_errors(net, quorums, fall, v):
    """The errors of lets_guild, in order, as far as they can be told."""
    if not is_two_tuples(v):
        yield ("shape", -1)
        return
    if not is_guild(net, quorums, fall, v[0]):
        yield ("guild", -1)
        return
    bad = list(round_errors(net, quorums, fall, *v))
    yield from bad
    if not bad and set(v[0]).union(*v[1]) != set(net[0]):
        yield ("rest", -1)


def good_errors(net, quorums, house, v):
    """The errors of lets_good, in order, as far as they can be told."""
    if not is_two_tuples(v):
        yield ("shape", -1)
        return
    for k, pair in enumerate(v[0]):
        good = plain.is_pair(pair) and plain.is_lot(net[0], pair[0]) and is_guild(net, quorums, *pair) and house in pair[1]
        if not good or (k and not pair[0] > v[0][k - 1][0]):
            yield ("good", k)
            return
        if any(set(pair[0]) <= set(e[0]) or set(e[0]) <= set(pair[0]) for e in v[0][:k]):
            yield ("within", k)
    for k, pair in enumerate(v[1]):
        bad = plain.is_pair(pair) and plain.is_lot(net[0], pair[0]) and type(pair[1]) is tuple
        if not bad or any(round_errors(net, quorums, pair[0], (), pair[1])) or not any(house in lot for lot in pair[1]):
            yield ("bad", k)
            return
    for fall in plain.subsets(net[0]):
        if not any(set(fall) <= set(f) for f, _ in v[0]) and not any(set(f) <= set(fall) for f, _ in v[1]):
            yield ("fall", fall)
