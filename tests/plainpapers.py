"""The definitions of part papers, falls papers and strike papers in their plainest form, by which the tests judge."""

from tests import plainruns as runs
from tests import plainwords as plain


def is_two_tuples_behind(v, word):
    return type(v) is tuple and len(v) == 3 and v[0] == word and type(v[1]) is tuple and type(v[2]) is tuple


def once_places(setting):
    return sorted((house, stage[0]) for house in runs.left_houses(setting) for stage in setting[2] if stage[1])


def is_run_to(setting, house, v, value):
    return runs.is_run(setting, v) and all(one[2] == value for one in v) and runs.taking(setting, house, value) in v


def is_part_leaf(setting, house, value, given, v):
    """Whether v is a set that shows that the house does not take the value, where these places are given to the other."""
    if not runs.is_set_of(setting, v, value) or runs.taking(setting, house, value) in v:
        return False
    left = [one for one in runs.all_sayings(setting, (value,)) if one not in v and runs.comes(setting, v, one, runs.holds)]
    return all(one[:2] in given for one in left)


def part_tree_errors(setting, house, other, v, path, to_v, to_w):
    if v[0] == "case":
        if v[1] not in once_places(setting) or v[1] in to_v + to_w:
            yield ("case", path)
            return
        yield from part_tree_errors(setting, house, other, v[2], path + (0,), to_v + (v[1],), to_w)
        yield from part_tree_errors(setting, house, other, v[3], path + (1,), to_v, to_w + (v[1],))
    elif v[0] == "v" and not is_part_leaf(setting, house, "v", to_w, v[1]):
        yield ("leaf", path)
    elif v[0] == "w" and not is_part_leaf(setting, other, "w", to_v, v[1]):
        yield ("leaf", path)


def part_errors(setting, house, other, v):
    """The errors of a part paper, in order, as far as they can be told."""
    if is_two_tuples_behind(v, "parted"):
        bad = [("first", -1)] * (not is_run_to(setting, house, v[1], "v"))
        bad += [("second", -1)] * (not is_run_to(setting, other, v[2], "w"))
        yield from bad
        if not bad:
            used = [{one[:2] for one in run} for run in v[1:]]
            yield from [("place", place) for place in once_places(setting) if place in used[0] & used[1]]
    elif plain.is_pair(v) and v[0] == "kept" and runs.is_tree(v[1], ("v", "w")):
        yield from part_tree_errors(setting, house, other, v[1], (), (), ())
    else:
        yield ("shape", -1)


def word_of(setting, kind, house, other, v):
    """The first word of a part paper, or a leave paper; None if it is none."""
    errors = part_errors if kind == "parting" else runs.leave_errors
    return v[0] if next(errors(setting, house, other, v), None) is None else None


def is_falls_form(net, v):
    if type(v) is not tuple or len(v) != 5 or type(v[0]) is not str or v[0] not in ("parting", "leaving"):
        return False
    if not plain.is_house(net, v[1]) or not plain.is_house(net, v[2]):
        return False
    return all(type(some) is tuple and all(plain.is_pair(pair) for pair in some) for some in v[3:])


def falls_errors(net, quorums, protocol, sender, v):
    """The errors of a falls paper, in order, as far as they can be told."""
    if not is_falls_form(net, v):
        yield ("shape", -1)
        return
    kind, house, other, bad, good = v
    words = ("parted" if kind == "parting" else "left", "kept")
    for m, some in enumerate((bad, good)):
        for k, (fall, paper) in enumerate(some):
            if not plain.is_lot(net[0], fall) or house in fall or other in fall:
                yield ("fall", (m, k))
                return
            if word_of((net, quorums, protocol, sender, fall), kind, house, other, paper) != words[m]:
                yield ("paper", (m, k))
    for fall in plain.subsets(net[0]):
        told = any(set(f) <= set(fall) for f, _ in bad) or any(set(fall) <= set(f) for f, _ in good)
        if house not in fall and other not in fall and not told:
            yield ("left", fall)


def are_prices(net, v):
    if type(v) is not tuple or len(v) != len(net[1]):
        return False
    return all(type(row) is tuple and len(row) == len(family) and all(plain.is_number(one) and one > 0 for one in row)
               for family, row in zip(net[1], v))


def price_of(net, prices, strikes):
    """What strikes cost together."""
    table = {(house, lot): one for house, family, row in zip(*net, prices) for lot, one in zip(family, row)}
    return sum(table[pair] for pair in strikes)


def behind(net, strikes):
    """The net without these strikes."""
    rows = [tuple(lot for lot in family if (house, lot) not in strikes) or ((),) for house, family in zip(*net)]
    return (net[0], tuple(rows))


def cover_pairs(v):
    return sorted({(v[k % 2], v[k]) for k in (2, 3, 4, 5) if v[k]})


def node_errors(net, prices, price, v, at, ahead):
    paid = type(v) is tuple and len(v) == 1 and type(v[0]) is str and v[0] == "paid"
    if not paid and not (type(v) is tuple and len(v) == 3 and type(v[0]) is str and v[0] == "split" and type(v[2]) is tuple):
        yield ("node", at)
        return
    if paid:
        if price_of(net, prices, ahead) < price:
            yield ("paid", at)
        return
    if not plain.is_cover(behind(net, ahead), v[1]):
        yield ("split", at)
        return
    if len(v[2]) != len(cover_pairs(v[1])):
        yield ("branches", at)
        return
    for k, (pair, branch) in enumerate(zip(cover_pairs(v[1]), v[2])):
        yield from node_errors(net, prices, price, branch, at + (k,), ahead + (pair,))


def strike_errors(net, prices, v):
    """The errors of a strike paper, in order, as far as they can be told."""
    if type(v) is not tuple or len(v) != 3:
        yield ("shape", -1)
        return
    price, strikes, tree = v
    if not plain.is_number(price):
        yield ("price", -1)
    if not plain.are_strikes(net, strikes) or price_of(net, prices, strikes) != price:
        yield ("strikes", -1)
    elif plain.has_cover(behind(net, strikes)):
        yield ("cover", -1)
    if plain.is_number(price):
        yield from node_errors(net, prices, price, tree, (), ())
