"""A bench and a desk in their plainest form, by which the tests judge; a bench is told by its log alone."""

from tests import plainruns as runs
from tests import plainwords as plain


def is_form(v):
    """Whether any value is an event by form for some net and protocol."""
    if type(v) is not tuple or not all(type(one) is str for one in v):
        return False
    names = v[1:3] if len(v) == 4 else v[1:]
    if not all(plain.is_name(name) for name in names):
        return False
    return len(v) == 4 and v[0] == "say" and runs.is_value(v[3]) or len(v) == 2 and v[0] == "fall"


def is_event_of(net, protocol, v):
    return is_form(v) and v[1] in net[0] and (len(v) == 2 or v[2] in [stage[0] for stage in protocol])


def is_log(v):
    if type(v) is not tuple or not v or type(v[0]) is not tuple or len(v[0]) != 5 or v[0][0] != "bench":
        return False
    if not runs.is_setting(v[0][1:] + ((),)):
        return False
    return all(is_event_of(v[0][1], v[0][3], event) for event in v[1:])


def fall_of(log):
    return tuple(sorted(event[1] for event in log[1:] if event[0] == "fall"))


def run_of(log):
    return tuple(event[1:] for event in log[1:] if event[0] == "say" and event[1] not in fall_of(log))


def setting_of(log):
    return log[0][1:] + (fall_of(log),)


def possible(log):
    return runs.next_sayings(setting_of(log), run_of(log), ("v", "w"))


def reason(log, event):
    """Why the event is refused behind a log; None if it is not."""
    setting, run = setting_of(log), run_of(log)
    if not is_event_of(setting[0], setting[2], event):
        return "shape"
    if len(log) > 40:
        return "full"
    if event[1] in setting[4]:
        return "fallen"
    if event[0] == "fall":
        return None
    if event[1:] in run:
        return "said"
    if runs.is_barred(setting, run, event[1:]):
        return "once"
    return None if runs.comes(setting, run, event[1:], runs.holds) else "ways"


def answer(log, event):
    """What a bench answers to an event that is not refused."""
    if event[0] == "fall":
        return tuple(one for one in run_of(log) if one[0] == event[1])
    return tuple(one for one in possible(log + (event,)) if one not in possible(log))


def verdict(log):
    setting, run = setting_of(log), run_of(log)
    took = {value: {house for house in setting[0][0] if runs.taking(setting, house, value) in run} for value in "vw"}
    if took["v"] and took["w"]:
        return "parted"
    if took["v"] | took["w"] == set(runs.left_houses(setting)):
        return "taken"
    return "going" if possible(log) else "stuck"


def row_of(sayings):
    return " / ".join(" ".join(one) for one in sayings) or "-"


def event_of(text):
    """The event that a text writes; None if it writes none."""
    words = tuple(text.split(" "))
    return words if is_form(words) else None


def desk_answer(log, row, read):
    """What a desk with the bench of a log, or None, answers to a row; read is what reads a log from lines, or tells None.

    It is a pair: the answer, or an error as told has it, and the log behind it.
    """
    wrong = (("InvalidRow", row), log)
    if type(row) is not str:
        return wrong
    found = read(row.split("\n"))
    if found is not None:
        return ("ok", found) if len(found) == 1 else wrong
    if log is None:
        return wrong
    event = event_of(row)
    if event is not None:
        bad = reason(log, event)
        return (row_of(answer(log, event)), log + (event,)) if bad is None else (("InvalidEvent", event, bad), log)
    if row == "undo":
        return (" ".join(log[-1]), log[:-1]) if log[1:] else (("NothingToUndo", 0), log)
    if row[:5] == "bars " and event_of(row[5:]) is not None:
        return (reason(log, event_of(row[5:])) or "-", log)
    table = {"run": lambda: row_of(run_of(log)), "possible": lambda: row_of(possible(log)), "houses": lambda: " ".join(fall_of(log)) or "-",
             "verdict": lambda: verdict(log), "events": lambda: str(len(log) - 1)}
    return (table[row](), log) if row in table else wrong
