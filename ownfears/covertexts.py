"""Covers as lines."""

from ownfears.kinds import is_name, is_name_set, is_tuple_of
from ownfears.usable import need


def is_cover_by_form(thing):
    """Whether thing is a tuple of two names and four sets of names."""
    if not is_tuple_of(thing, 6):
        return False
    return all([is_name(house) for house in thing[:2]]) and all([is_name_set(lot) for lot in thing[2:]])


def cover_text(cover):
    """The line of a cover, of any net."""
    need(is_cover_by_form(cover), "cover")
    lots = [",".join(lot) if lot else "-" for lot in cover[2:]]
    return " ".join([cover[0], cover[1], *lots])
