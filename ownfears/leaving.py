"""Houses that are left by others, and houses that surely hear the sender."""

from ownfears.leavesearch import Leave, hears, tree_or_run, written_run, written_tree
from ownfears.protocolkinds import is_setting
from ownfears.sayingforms import houses_left
from ownfears.usable import need


def can_leave(setting, house, other):
    """Whether the house can be left by the other one."""
    need(is_setting(setting), "setting")
    need(house in houses_left(setting), "house")
    need(other in houses_left(setting), "other")
    return tree_or_run(Leave(setting, house, other), 0, 0)[0] == "left"


def leave_paper(setting, house, other):
    """A paper that shows that the house can be left by the other one, or that it cannot."""
    need(is_setting(setting), "setting")
    need(house in houses_left(setting), "house")
    need(other in houses_left(setting), "other")
    leave = Leave(setting, house, other)
    found = tree_or_run(leave, 0, 0)
    if found[0] == "left":
        return written_run(leave, found[1])
    return ("kept", written_tree(leave, found))


def hears_sender(setting, house):
    """Whether the house surely hears the sender."""
    need(is_setting(setting), "setting")
    need(house in houses_left(setting), "house")
    return setting[3] not in setting[4] and hears(Leave(setting, house, house), 0)
