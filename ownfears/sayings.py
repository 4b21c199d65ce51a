"""What can be said behind a run."""

from ownfears.protocolkinds import is_setting
from ownfears.runrules import Rules, run_fault, said_in, saying_fault, sayings_behind
from ownfears.sayingforms import is_saying_of
from ownfears.usable import need


def can_say(setting, run, saying):
    """Whether the saying can be said behind the run."""
    need(is_setting(setting), "setting")
    need(run_fault(setting, run) is None, "run")
    need(is_saying_of(setting, saying), "saying")
    rules = Rules(setting)
    return saying_fault(rules, said_in(rules, run), saying) is None


def possible_sayings(setting, run):
    """Yield the sayings that can be said behind the run, ascending."""
    need(is_setting(setting), "setting")
    need(run_fault(setting, run) is None, "run")
    yield from sayings_behind(Rules(setting), run)
