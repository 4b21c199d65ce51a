"""The definitions of the document in their plainest form, by which the tests judge; nothing is imported from the package."""

import itertools
import re


def is_integer(v):
    return type(v) is int


def is_number(v):
    return type(v) is int and v >= 0


def is_name(v):
    return type(v) is str and re.fullmatch("[a-z]{1,8}", v) is not None


def is_set_by(v, test):
    return type(v) is tuple and all(test(x) for x in v) and list(v) == sorted(set(v))


def is_name_set(v):
    return is_set_by(v, is_name)


def are_houses(v):
    return is_name_set(v) and len(v) > 0


def is_lot(houses, v):
    return is_name_set(v) and set(v) <= set(houses)


def is_family(houses, v):
    if not is_set_by(v, lambda lot: is_lot(houses, lot)) or len(v) == 0:
        return False
    return not any(set(a) <= set(b) for a, b in itertools.permutations(v, 2))


def is_pair(v):
    return type(v) is tuple and len(v) == 2


def is_net(v):
    if not is_pair(v) or not are_houses(v[0]):
        return False
    return type(v[1]) is tuple and len(v[1]) == len(v[0]) and all(is_family(v[0], f) for f in v[1])


def are_quorums(net, v):
    if type(v) is not tuple or len(v) != len(net[0]):
        return False
    return all(is_family(net[0], f) and () not in f for f in v)


def is_own_lot(net, v):
    return is_pair(v) and is_house(net, v[0]) and is_name_set(v[1]) and v[1] in lots(net, v[0])


def are_strikes(net, v):
    return is_set_by(v, lambda pair: is_own_lot(net, pair))


def is_house(net, v):
    return type(v) is str and v in net[0]


def lots(net, house):
    return dict(zip(*net))[house]


def reckons(net, house, lot):
    return any(set(lot) <= set(own) for own in lots(net, house))


def subsets(names):
    """All subsets, fewer first, then ascending."""
    return [c for size in range(len(names) + 1) for c in itertools.combinations(names, size)]


def maximal(some):
    """The greatest of some sets, ascending."""
    some = {tuple(sorted(x)) for x in some}
    return tuple(sorted(x for x in some if not any(set(x) < set(y) for y in some)))


def is_cover(net, v):
    if type(v) is not tuple or len(v) != 6:
        return False
    if not (is_house(net, v[0]) and is_house(net, v[1])):
        return False
    for k in (2, 3, 4, 5):
        if not is_name_set(v[k]) or v[k] not in lots(net, v[(0, 1)[k % 2]]):
            return False
    return set(net[0]) == set(v[2]) | set(v[3]) | (set(v[4]) & set(v[5]))


def all_covers(net):
    """All covers, ascending, by trying everything."""
    found = []
    for house, other in itertools.product(net[0], repeat=2):
        mine, theirs = lots(net, house), lots(net, other)
        for four in itertools.product(mine, theirs, mine, theirs):
            if is_cover(net, (house, other) + four):
                found.append((house, other) + four)
    return found


def has_cover(net):
    """Whether there is a cover, with sets as numbers, so that many nets can be gone through."""
    bit = {name: 1 << k for k, name in enumerate(net[0])}
    full = (1 << len(net[0])) - 1
    fears = [[sum(bit[name] for name in lot) for lot in family] for family in net[1]]
    for mine, theirs in itertools.combinations_with_replacement(fears, 2):
        unions = {a | b for a in mine for b in theirs}
        commons = {a & b for a in mine for b in theirs}
        if any(u | c == full for u in unions for c in commons):
            return True
    return False


def available(net, quorums):
    return all(
        any(not set(q) & set(lot) for q in quorums[h]) for h, family in enumerate(net[1]) for lot in family)


def agree(net, quorums):
    for h, i in itertools.product(range(len(net[0])), repeat=2):
        for q, r in itertools.product(quorums[h], quorums[i]):
            both = tuple(sorted(set(q) & set(r)))
            if reckons(net, net[0][h], both) and reckons(net, net[0][i], both):
                return False
    return True


def fits(net, quorums):
    return available(net, quorums) and agree(net, quorums)


def family_errors(houses, h, v, nobody):
    if type(v) is not tuple or not v or any(type(x) is not tuple for x in v):
        yield ("family", h)
        return
    for m, lot in enumerate(v):
        if not is_lot(houses, lot) or (m and not lot > v[m - 1]):
            yield ("lot", (h, m))
            return
        if not nobody and not lot:
            yield ("empty", (h, m))
        if any(set(e) <= set(lot) or set(lot) <= set(e) for e in v[:m]):
            yield ("within", (h, m))


def net_errors(v):
    """The errors of lets_net, in order, as far as they can be told."""
    if not is_pair(v) or type(v[0]) is not tuple or type(v[1]) is not tuple or not v[0] or len(v[1]) != len(v[0]):
        yield ("shape", -1)
        return
    for k, house in enumerate(v[0]):
        if not is_name(house) or (k and not house > v[0][k - 1]):
            yield ("house", k)
            return
    for h, family in enumerate(v[1]):
        yield from family_errors(v[0], h, family, True)


def fit_errors(net, v):
    """The errors of lets_fit, in order, as far as they can be told."""
    houses, fears = net
    if type(v) is not tuple or len(v) != len(houses):
        yield ("shape", -1)
        return
    for h, family in enumerate(v):
        for error in family_errors(houses, h, family, False):
            yield error
            return
    for h, family in enumerate(fears):
        for m, lot in enumerate(family):
            if all(set(q) & set(lot) for q in v[h]):
                yield ("available", (h, m))
    ats = []
    for h, i in itertools.combinations_with_replacement(range(len(houses)), 2):
        for (m, q), (k, r) in itertools.product(enumerate(v[h]), enumerate(v[i])):
            both = set(q) & set(r)
            if all(any(both <= set(lot) for lot in fears[x]) for x in (h, i)):
                ats.append((h, i, m, k))
    if ats:
        yield ("agree", min(ats))


def cover_errors(net, v):
    """The errors of lets_cover, in order, as far as they can be told."""
    if type(v) is not tuple or len(v) != 6:
        yield ("shape", -1)
        return
    bad = [("house", k) for k in (0, 1) if not is_house(net, v[k])]
    yield from bad
    if bad:
        return
    bad = [("lot", k) for k in (2, 3, 4, 5) if not is_own_lot(net, (v[(0, 1)[k % 2]], v[k]))]
    yield from bad
    if bad:
        return
    for house in net[0]:
        if house not in v[2] + v[3] and not (house in v[4] and house in v[5]):
            yield ("left", house)


def either_errors(net, v):
    """The errors of lets_either, in order, as far as they can be told."""
    if not is_pair(v) or type(v[0]) is not str or v[0] not in ("fits", "cover"):
        yield ("shape", -1)
    elif v[0] == "fits":
        yield from fit_errors(net, v[1])
    else:
        yield from cover_errors(net, v[1])
