"""Lots and nets that are read from texts."""

from ownfears.errors import InvalidText
from ownfears.kinds import is_name, is_name_set, is_net
from ownfears.usable import need


def stands_in_lot(ahead, word):
    """Whether the word can stand in a lot behind the word ahead, which is None where the lot begins."""
    if word == "-":
        return ahead is None
    return is_name(word) and ahead != "-"


def stands_in_line(words, column):
    """Whether the word of this column can stand in a line of a net, if those ahead of it can."""
    word = words[column]
    if column == 0:
        return is_name(word)
    if column == 1:
        return word == "="
    ahead = words[column - 1]
    begins = ahead in ("=", "|")
    if word == "|":
        return not begins
    return stands_in_lot(None if begins else ahead, word)


def check_line(words, line):
    """Raise InvalidText for the first word of a line of a net that cannot stand, or that is missing."""
    for column in range(len(words)):
        if not stands_in_line(words, column):
            raise InvalidText(line, column)
    if len(words) == 1 or words[-1] in ("=", "|"):
        raise InvalidText(line, len(words))


def lot_of_words(words):
    """What the words of a lot write, be it a set or not."""
    return () if words == ["-"] else tuple(words)


def lot_read(text):
    """The set of names that the text writes."""
    need(isinstance(text, str), "text")
    words = text.split(" ")
    for column, word in enumerate(words):
        if not stands_in_lot(words[column - 1] if column > 0 else None, word):
            raise InvalidText(0, column)
    lot = lot_of_words(words)
    need(is_name_set(lot), "text")
    return lot


def pair_of_lines(lines, first):
    """The houses and families that the lines write, be they a net or not; first is the index of the first line."""
    rows = [line.split(" ") for line in lines]
    for k, words in enumerate(rows):
        check_line(words, first + k)
    parts = [" ".join(words[2:]).split(" | ") for words in rows]
    fears = [tuple([lot_of_words(lot.split(" ")) for lot in lots]) for lots in parts]
    return (tuple([words[0] for words in rows]), tuple(fears))


def net_read(text):
    """The net that the text writes."""
    need(isinstance(text, str), "text")
    net = pair_of_lines(text.split("\n"), 0)
    need(is_net(net), "text")
    return net
