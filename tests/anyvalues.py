"""Values of every kind, and what becomes of good values by one small fault."""

DEEP = ()
for _ in range(48):
    DEEP = (DEEP,)

INTEGERS = [0, 1, -1, 2, 3, 7, 10 ** 59]
STRINGS = ["", "a", "b", "e", "x", "A", "aB", "a b", "a1", "abcdefgh", "abcdefghi", "-", "=", "|", "\n", "a\n", " a"]
TUPLES = [
    (), ("a",), ("b", "a"), ("a", "a"), ("a", "b"), ("x",), ("A",), ("",), ("abcdefghi",), (1,), (None,), (True,), (0,),
    ("a", 1), (1, "a"), ("a", None), ("a", ()), ((),), (("a",),), (("a",), ("b",)), (("b",), ("a",)), (((),),),
    ((), ("a",)), (("a",), ("a", "b")), ("a", ("a",)), ("a", ("b",)), ("a", ["b"]), (("a",), (((),),)), ("ab",), DEEP,
]
LISTS = [[], ["a"], ["a", "b"], [1], [[]], [()], ([],), (["a"],), [("a",)], ["a", ("b",)], [("a",), (((),),)]]

EVERY_KIND = INTEGERS + [True, False, None] + STRINGS + TUPLES + LISTS

SPARE = [None, True, 0, 1, -1, "", "a", "b", "x", "A", (), ("a",), ("b", "a"), ("x",), ((),), [], ["a"]]


def mutants(value, spare=SPARE):
    """Values that come of this one by one small fault anywhere in it."""
    for other in spare:
        yield other
    if not isinstance(value, tuple):
        return
    yield list(value)
    yield value + value[:1]
    for k, part in enumerate(value):
        yield value[:k] + value[k + 1:]
        yield value[:k + 1] + value[k:]
        yield value[:k] + value[k + 1:k + 2] + (part,) + value[k + 2:]
        for mutant in mutants(part, spare):
            yield value[:k] + (mutant,) + value[k + 1:]


def double_mutants(value, rng, many):
    """Values that come of this one by two small faults or more, drawn by the rng."""
    firsts = list(mutants(value))
    for _ in range(many):
        first = rng.choice(firsts)
        yield rng.choice(list(mutants(first)))
