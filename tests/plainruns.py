"""The definitions of protocols, runs and what is heard for sure in their plainest form, by which the tests judge."""

import itertools

from tests import plainguilds as guilds
from tests import plainwords as plain

KINDS = ("one", "kernel", "quorum", "self")


def protocol_errors(v):
    """The errors of lets_protocol, in order, as far as they can be told."""
    if type(v) is not tuple or not v:
        yield ("shape", -1)
        return
    for k, stage in enumerate(v):
        form = type(stage) is tuple and len(stage) == 3
        if not form or not plain.is_name(stage[0]) or type(stage[1]) is not bool or type(stage[2]) is not tuple:
            yield ("stage", k)
            return
        if stage[0] in [earlier[0] for earlier in v[:k]]:
            yield ("name", k)
    names = [stage[0] for stage in v]
    for k, (_, _, ways) in enumerate(v):
        for m, way in enumerate(ways):
            if type(way) is not tuple or not way:
                yield ("way", (k, m))
                continue
            for n, one in enumerate(way):
                pair = plain.is_pair(one) and type(one[0]) is str and type(one[1]) is str and one[0] in KINDS and one[1] in names
                if not pair and not (type(one) is tuple and len(one) == 1 and type(one[0]) is str and one[0] == "sender"):
                    yield ("condition", (k, m, n))


def is_protocol(v):
    return next(protocol_errors(v), None) is None


def is_setting(v):
    if type(v) is not tuple or len(v) != 5 or not plain.is_net(v[0]) or not plain.are_quorums(v[0], v[1]):
        return False
    return is_protocol(v[2]) and plain.is_house(v[0], v[3]) and plain.is_lot(v[0][0], v[4])


def stage_of(protocol, name):
    return next(stage for stage in protocol if stage[0] == name)


def left_houses(setting):
    return [house for house in setting[0][0] if house not in setting[4]]


def is_value(v):
    return type(v) is str and v in ("v", "w")


def is_saying(setting, v):
    if type(v) is not tuple or len(v) != 3 or not plain.is_house(setting[0], v[0]) or v[0] in setting[4]:
        return False
    return type(v[1]) is str and v[1] in [stage[0] for stage in setting[2]] and is_value(v[2])


def all_sayings(setting, values=("v", "w")):
    return sorted((house, stage[0], value) for house in left_houses(setting) for stage in setting[2] for value in values)


def holds(setting, said, house, value, condition):
    """Whether a condition holds for a saying, behind some others, by [8]."""
    net, quorums, _, sender, fall = setting
    if condition == ("sender",):
        return sender in fall or value == "v"
    kind, stage = condition
    if kind == "self":
        return (house, stage, value) in said
    if kind == "one":
        return fall != () or any((one, stage, value) in said for one in net[0])
    lots = guilds.kernels(net, quorums, house) if kind == "kernel" else guilds.quorums_of(net, quorums, house)
    return any(all(one in fall or (one, stage, value) in said for one in lot) for lot in lots)


def surely_holds(setting, said, house, value, condition):
    """Whether a condition holds if those who fell say nothing any more, by [9]."""
    net, quorums, _, sender, fall = setting
    if condition == ("sender",):
        return sender not in fall
    kind, stage = condition
    if kind == "self":
        return (house, stage, value) in said
    if kind == "one":
        return any((one, stage, value) in said for one in net[0])
    lots = guilds.kernels(net, quorums, house) if kind == "kernel" else guilds.quorums_of(net, quorums, house)
    return any(all((one, stage, value) in said for one in lot) for lot in lots)


def comes(setting, said, saying, test):
    house, stage, value = saying
    ways = stage_of(setting[2], stage)[2]
    return any(all(test(setting, said, house, value, condition) for condition in way) for way in ways)


def run_errors(setting, v):
    """The errors of lets_run, in order, as far as they can be told."""
    if type(v) is not tuple:
        yield ("shape", -1)
        return
    for k, saying in enumerate(v):
        if not is_saying(setting, saying):
            yield ("saying", k)
            return
        house, stage, value = saying
        if saying in v[:k]:
            yield ("said", k)
        if stage_of(setting[2], stage)[1] and (house, stage, "vw".replace(value, "")) in v[:k]:
            yield ("once", k)
        if not comes(setting, v[:k], saying, holds):
            yield ("ways", k)


def is_run(setting, v):
    return next(run_errors(setting, v), None) is None


def is_barred(setting, said, one):
    """Whether once bars the saying behind others."""
    house, stage, value = one
    return stage_of(setting[2], stage)[1] and (house, stage, "vw".replace(value, "")) in said


def next_sayings(setting, said, values=("v",)):
    """The sayings with these values that can be said behind those of a run."""
    return [one for one in all_sayings(setting, values)
            if one not in said and not is_barred(setting, said, one) and comes(setting, said, one, holds)]


def said_sets(setting, values=("v",)):
    """What runs with these values alone have for their sayings, each once, by going through all."""
    found = {frozenset()}
    waiting = [frozenset()]
    while waiting:
        said = waiting.pop()
        for one in next_sayings(setting, said, values):
            more = said | {one}
            if more not in found:
                found.add(more)
                waiting.append(more)
    return found


def sure_step(setting, said):
    """The sayings of v that are heard for sure in one step behind these."""
    return {one for one in all_sayings(setting, ("v",)) if comes(setting, said, one, surely_holds)}


def sure_behind(setting, said):
    """The sayings that are heard for sure behind these."""
    said = set(said)
    while not sure_step(setting, said) <= said:
        said |= sure_step(setting, said)
    return said


def taking(setting, house, value="v"):
    return (house, setting[2][-1][0], value)


def left_pairs(setting):
    """All pairs of which the first can be left by the second, by going through all runs."""
    houses = left_houses(setting)
    found = set()
    for said in said_sets(setting):
        takers = [house for house in houses if taking(setting, house) in said]
        if takers:
            sure = sure_behind(setting, said)
            found |= {(house, other) for house in houses for other in takers if taking(setting, house) not in sure}
    return found


def parted_pairs(setting):
    """All pairs of which the first takes v and the second w in some run, by going through all runs."""
    houses = left_houses(setting)
    found = set()
    for said in said_sets(setting, ("v", "w")):
        first, second = [[house for house in houses if taking(setting, house, value) in said] for value in "vw"]
        found |= set(itertools.product(first, second))
    return found


def is_set_of(setting, v, value="v"):
    return plain.is_set_by(v, lambda one: is_saying(setting, one) and one[2] == value)


def is_tree(v, words=("closed", "sure")):
    if type(v) is not tuple or not v or type(v[0]) is not str:
        return False
    if v[0] == "case":
        return len(v) == 4 and is_tree(v[2], words) and is_tree(v[3], words)
    return v[0] in words and len(v) == 2 and type(v[1]) is tuple


def is_closed_leaf(setting, other, barred, v):
    if not is_set_of(setting, v) or taking(setting, other) in v:
        return False
    return set(next_sayings(setting, v)) <= set(barred)


def is_sure_leaf(setting, house, heard, v):
    if not v or not all(is_saying(setting, one) and one[2] == "v" for one in v):
        return False
    steps = all(one in heard or comes(setting, heard + v[:k], one, surely_holds) for k, one in enumerate(v))
    return steps and v[-1] == taking(setting, house)


def tree_errors(setting, house, other, v, path, barred, heard):
    if v[0] == "case":
        one = v[1]
        if not is_saying(setting, one) or one[2] != "v" or one in barred + heard:
            yield ("case", path)
            return
        yield from tree_errors(setting, house, other, v[2], path + (0,), barred + (one,), heard)
        yield from tree_errors(setting, house, other, v[3], path + (1,), barred, heard + (one,))
    elif v[0] == "closed" and not is_closed_leaf(setting, other, barred, v[1]):
        yield ("leaf", path)
    elif v[0] == "sure" and not is_sure_leaf(setting, house, heard, v[1]):
        yield ("leaf", path)


def leave_errors(setting, house, other, v):
    """The errors of a leave paper, in order, as far as they can be told."""
    left = type(v) is tuple and len(v) == 3 and v[0] == "left" and type(v[1]) is tuple and type(v[2]) is tuple
    if not left and not (plain.is_pair(v) and v[0] == "kept" and is_tree(v[1])):
        yield ("shape", -1)
    elif v[0] == "kept":
        yield from tree_errors(setting, house, other, v[1], (), (), ())
    else:
        _, run, sayings = v
        if not is_run(setting, run) or any(one[2] != "v" for one in run) or taking(setting, other) not in run:
            yield ("run", -1)
            return
        good = is_set_of(setting, sayings) and set(run) <= set(sayings) and sure_step(setting, sayings) <= set(sayings)
        if not good or taking(setting, house) in sayings:
            yield ("sayings", -1)
