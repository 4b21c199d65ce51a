"""The refusal of parameters."""

from ownfears.errors import NotUsable


def need(usable, word):
    """Raise NotUsable for the parameter of this name unless it is usable."""
    if not usable:
        raise NotUsable(word, -1)
