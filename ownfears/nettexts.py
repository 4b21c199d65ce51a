"""Lots, families and nets as texts."""

from ownfears.kinds import is_name_set, is_net
from ownfears.usable import need


def lot_words(lot):
    """The words of a lot that is known to be usable."""
    return " ".join(lot) if lot else "-"


def family_words(family):
    """The words of the lots of a family, as they stand in a line of a net."""
    return " | ".join([lot_words(lot) for lot in family])


def lot_text(lot):
    """The text of a set of names, of whatever houses."""
    need(is_name_set(lot), "lot")
    return lot_words(lot)


def net_text(net):
    """The lines of a net, one for each house."""
    need(is_net(net), "net")
    houses, fears = net
    return "\n".join([f"{house} = {family_words(family)}" for house, family in zip(houses, fears)])
