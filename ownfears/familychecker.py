"""The errors of a family in a paper."""

from ownfears.errors import InvalidPaper
from ownfears.lotsets import includes, is_lot_of


def is_tuple_of_tuples(thing):
    """Whether thing is a tuple, and each of its elements is one."""
    return isinstance(thing, tuple) and all([isinstance(part, tuple) for part in thing])


def check_family(houses, h, family, nobody):
    """Raise the first error of the family of house h; nobody says whether () may be one of its lots."""
    if not is_tuple_of_tuples(family) or family == ():
        raise InvalidPaper("family", h)
    for m, lot in enumerate(family):
        if not is_lot_of(houses, lot) or (m > 0 and lot <= family[m - 1]):
            raise InvalidPaper("lot", (h, m))
        if lot == () and not nobody:
            raise InvalidPaper("empty", (h, m))
        if any([includes(lot, earlier) or includes(earlier, lot) for earlier in family[:m]]):
            raise InvalidPaper("within", (h, m))
