"""Houses that can be brought to unlike values."""

from ownfears.partsearch import Parting, tree_or_runs, written_runs, written_tree
from ownfears.protocolkinds import is_setting
from ownfears.sayingforms import houses_left
from ownfears.usable import need


def can_part(setting, house, other):
    """Whether there is a run in which the house takes v, and the other one w."""
    need(is_setting(setting), "setting")
    need(house in houses_left(setting), "house")
    need(other in houses_left(setting), "other")
    return tree_or_runs(Parting(setting, house, other), 0, 0)[0] == "parted"


def part_paper(setting, house, other):
    """A paper that shows that the two houses can be parted, or that they cannot."""
    need(is_setting(setting), "setting")
    need(house in houses_left(setting), "house")
    need(other in houses_left(setting), "other")
    parting = Parting(setting, house, other)
    found = tree_or_runs(parting, 0, 0)
    if found[0] == "parted":
        _, first, second = found
        return written_runs(parting, first, second)
    return ("kept", written_tree(parting, found))
