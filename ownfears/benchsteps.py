"""The steps of a bench, from a setting and a run to those behind an event."""

from ownfears.benchforms import is_event_of
from ownfears.runrules import Rules, said_in, saying_fault, sayings_behind
from ownfears.sayingforms import houses_left, takers_in


def event_fault(setting, run, room, event):
    """The reason why the event is refused, None if it is not; room says whether there may be one more."""
    net, _, protocol, _, fall = setting
    if not is_event_of(net, protocol, event):
        return "shape"
    if not room:
        return "full"
    if event[1] in fall:
        return "fallen"
    if event[0] == "fall":
        return None
    rules = Rules(setting)
    return saying_fault(rules, said_in(rules, run), event[1:])


def sayings_of(run, house):
    """The tuple of the sayings of the house in the run."""
    return tuple([saying for saying in run if saying[0] == house])


def state_behind(setting, run, event):
    """The setting and the run behind an event that is not refused."""
    if event[0] == "say":
        return (setting, run + (event[1:],))
    house = event[1]
    fall = tuple(sorted(setting[4] + (house,)))
    return (setting[:4] + (fall,), tuple([saying for saying in run if saying[0] != house]))


def answer_to(setting, run, event):
    """What a bench answers to an event that is not refused."""
    if event[0] == "fall":
        return sayings_of(run, event[1])
    rules = Rules(setting)
    before = sayings_behind(rules, run)
    return tuple([saying for saying in sayings_behind(rules, run + (event[1:],)) if saying not in before])


def verdict_of(setting, run):
    """The word that tells how far the run has come."""
    first = takers_in(setting, run, "v")
    second = takers_in(setting, run, "w")
    if first and second:
        return "parted"
    if all([house in first or house in second for house in houses_left(setting)]):
        return "taken"
    return "going" if sayings_behind(Rules(setting), run) else "stuck"
