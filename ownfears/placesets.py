"""Sets of places as integers: the bit of place k is 1 << k; which place that is, a list of places tells."""


def has(bits, k):
    """Whether place k is in the set."""
    return bits >> k & 1 == 1


def bits_said(places, sayings, value):
    """The set of the places at which the sayings say this value."""
    return sum([1 << k for k, (house, name) in enumerate(places) if (house, name, value) in sayings])


def sayings_at(places, order, value):
    """The tuple of the sayings with this value at the places of these numbers, in this order."""
    return tuple([places[k] + (value,) for k in order])


def sayings_in(places, bits, value):
    """The set of the sayings with this value at the places of the set."""
    return sayings_at(places, [k for k in range(len(places)) if has(bits, k)], value)
