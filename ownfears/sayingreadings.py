"""Sayings and runs that are read from texts."""

from ownfears.errors import InvalidText
from ownfears.kinds import is_name
from ownfears.sayingforms import VALUES
from ownfears.usable import need


def stands_in_saying(words, column):
    """Whether the word of this column can stand in the line of a saying."""
    if column < 2:
        return is_name(words[column])
    return column == 2 and words[column] in VALUES


def saying_of_line(text, line):
    """The saying that the text writes, which is the line of this index."""
    words = text.split(" ")
    for column in range(len(words)):
        if not stands_in_saying(words, column):
            raise InvalidText(line, column)
    if len(words) < 3:
        raise InvalidText(line, len(words))
    return tuple(words)


def saying_read(text):
    """The saying, of no setting, that the text writes."""
    need(isinstance(text, str), "text")
    return saying_of_line(text, 0)


def run_read(text):
    """The run, of no setting, that the text writes."""
    need(isinstance(text, str), "text")
    if text == "-":
        return ()
    return tuple([saying_of_line(row, line) for line, row in enumerate(text.split("\n"))])
