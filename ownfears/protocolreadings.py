"""Protocols that are read from texts."""

from ownfears.errors import InvalidText
from ownfears.kinds import is_name
from ownfears.protocolfaults import HEARD
from ownfears.protocolkinds import is_protocol
from ownfears.usable import need


def writes_condition(part):
    """Whether part of a word writes a condition, of whatever stage."""
    if part == "sender":
        return True
    words = part.split(":")
    return len(words) == 2 and words[0] in HEARD and is_name(words[1])


def stands_in_stage(words, column):
    """Whether the word of this column can stand in the line of a stage, if those ahead of it can."""
    word = words[column]
    if column == 0:
        return is_name(word)
    if column == 1:
        return word in ("once", "free")
    if word == "-":
        return column == 2
    return words[2] != "-" and all([writes_condition(part) for part in word.split("+")])


def check_stage_line(words, line):
    """Raise InvalidText for the first word of the line of a stage that cannot stand, or that is missing."""
    for column in range(len(words)):
        if not stands_in_stage(words, column):
            raise InvalidText(line, column)
    if len(words) < 3:
        raise InvalidText(line, len(words))


def way_of_word(word):
    """The way that the word writes."""
    return tuple([tuple(part.split(":")) for part in word.split("+")])


def stages_of_lines(lines, first):
    """What the lines write, be it a protocol or not; first is the index of the first one of them."""
    rows = [line.split(" ") for line in lines]
    for k, words in enumerate(rows):
        check_stage_line(words, first + k)
    stages = []
    for words in rows:
        ways = [way_of_word(word) for word in words[2:] if word != "-"]
        stages.append((words[0], words[1] == "once", tuple(ways)))
    return tuple(stages)


def protocol_read(text):
    """The protocol that the text writes."""
    need(isinstance(text, str), "text")
    protocol = stages_of_lines(text.split("\n"), 0)
    need(is_protocol(protocol), "text")
    return protocol
