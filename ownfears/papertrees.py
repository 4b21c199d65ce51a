"""Part papers and leave papers by form, and the parts of their trees."""

from ownfears.kinds import is_tuple_of


def is_triple_of(thing, word):
    """Whether thing is a triple of this word and two tuples."""
    return is_tuple_of(thing, 3) and thing[0] == word and isinstance(thing[1], tuple) and isinstance(thing[2], tuple)


def is_tree(thing, words):
    """Whether thing is a tree by form, with leaves of these words."""
    if is_tuple_of(thing, 4):
        return thing[0] == "case" and is_tree(thing[2], words) and is_tree(thing[3], words)
    return is_tuple_of(thing, 2) and thing[0] in words and isinstance(thing[1], tuple)


def is_kept_tree(thing, words):
    """Whether thing is a pair of the word kept and such a tree."""
    return is_tuple_of(thing, 2) and thing[0] == "kept" and is_tree(thing[1], words)


def tree_parts(tree):
    """The list of the parts of a tree, each ahead of its own trees, the first of these first.

    A part is told with the path to it, and with the tuple of what was asked at each step of the path.
    """
    parts = []
    waiting = [((), (), tree)]
    while waiting:
        path, asked, part = waiting.pop()
        parts.append((path, asked, part))
        if part[0] == "case":
            _, thing, first, second = part
            waiting.append((path + (1,), asked + (thing,), second))
            waiting.append((path + (0,), asked + (thing,), first))
    return parts


def asked_by(path, asked, step):
    """The list of what was asked where the path took this step."""
    return [thing for thing, taken in zip(asked, path) if taken == step]
