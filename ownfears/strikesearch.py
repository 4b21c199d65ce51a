"""The search for the lightest strikes behind which a net has no cover.

The pairs of a house and a lot of it that is not empty have numbers, ascending. A cover is told by the four numbers of
its lots. Empty lots are left out: beside one stands a lot of all houses, whose house has a cover with itself by that.
"""


class Fears:
    """The pairs of a net, their lots as integers with a bit for each house, and the numbers of each house's own."""

    def __init__(self, net):
        houses, fears = net
        bits = {house: 1 << k for k, house in enumerate(houses)}
        self.pairs = [(house, lot) for house, family in zip(houses, fears) for lot in family if lot != ()]
        self.lots = [sum([bits[name] for name in lot]) for _, lot in self.pairs]
        self.own = [[k for k, pair in enumerate(self.pairs) if pair[0] == house] for house in houses]
        self.every = (1 << len(houses)) - 1


def first_with(fears, numbers, rest):
    """The first of these numbers whose lot has all houses of the rest; None if there is none."""
    for k in numbers:
        if fears.lots[k] & rest == rest:
            return k
    return None


def cover_by_two(fears, mine, theirs):
    """A cover of one of my lots and one of theirs alone, told by their numbers; None if there is none."""
    for one in mine:
        for two in theirs:
            if fears.lots[one] | fears.lots[two] == fears.every:
                return (one, two, one, two)
    return None


def cover_by_four(fears, mine, theirs):
    """A cover of two of my lots and two of theirs; None if there is none."""
    for one in mine:
        for two in theirs:
            rest = fears.every & ~(fears.lots[one] | fears.lots[two])
            three = first_with(fears, mine, rest)
            four = first_with(fears, theirs, rest)
            if three is not None and four is not None:
                return (one, two, three, four)
    return None


def cover_left(fears, h, i, gone, by_two):
    """A cover of houses h and i, by their indexes, without lots that are gone; None if there is none."""
    mine = [k for k in fears.own[h] if k not in gone]
    theirs = [k for k in fears.own[i] if k not in gone]
    return cover_by_two(fears, mine, theirs) if by_two else cover_by_four(fears, mine, theirs)


def some_covers(fears, struck):
    """A list of covers without struck lots, no two of them with one lot in common; an empty one if none is left."""
    found = []
    gone = struck
    couples = [(one, two) for one in range(len(fears.own)) for two in range(one + 1)]
    # The fewer lots a cover has, the less choice it leaves: so those of two come first.
    for by_two in (True, False):
        for h, i in couples:
            cover = cover_left(fears, h, i, gone, by_two)
            while cover is not None:
                found.append(cover)
                gone = gone + cover
                cover = cover_left(fears, h, i, gone, by_two)
    return found


def weight_of(weights, numbers):
    """The sum of the weights of these numbers."""
    return sum([weights[k] for k in numbers])


def struck_on(fears, weights, struck):
    """These numbers and more, behind which no cover is left, and a list of covers that were left before."""
    covers = []
    while True:
        more = some_covers(fears, struck)
        if not more:
            return (struck, covers)
        covers = covers + more
        struck = struck + tuple([min(cover, key=lambda k: weights[k]) for cover in more])


class Lightest:
    """The lightest numbers that were found so far, and their weight."""

    def __init__(self, weights, numbers):
        self.weights = weights
        self.numbers = numbers
        self.weight = weight_of(weights, numbers)


def least_charge(weights, parts):
    """A weight that all numbers have at least that have one of each of the parts."""
    left = list(weights)
    total = 0
    for part in parts:
        charge = min([left[k] for k in part])
        total = total + charge
        for k in part:
            left[k] = left[k] - charge
    return total


def look_for_lighter(lightest, parts, numbers, weight):
    """Keep the lightest of all numbers that have these, and one of each of the parts, if there are lighter ones."""
    if weight + least_charge(lightest.weights, parts) >= lightest.weight:
        return
    if not parts:
        lightest.numbers = numbers
        lightest.weight = weight
        return
    barred = []
    for k in parts[0]:
        left = [[other for other in part if other not in barred] for part in parts if k not in part]
        if [] not in left:
            # The shorter parts come first: they leave the least choice.
            look_for_lighter(lightest, sorted(left, key=len), numbers + (k,), weight + lightest.weights[k])
        barred.append(k)


def lightest_of(weights, covers, best):
    """The lightest numbers that have one of each of the covers; best are such numbers."""
    lightest = Lightest(weights, best)
    look_for_lighter(lightest, sorted([sorted(set(cover)) for cover in covers], key=len), (), 0)
    return lightest.numbers


def lightest_strikes(fears, weights):
    """The numbers of the lightest strikes behind which no cover is left, and a list of covers that need this weight."""
    covers = []
    best = tuple(range(len(weights)))
    struck = ()
    while True:
        further, more = struck_on(fears, weights, struck)
        if not more:
            return (struck, covers)
        covers = covers + more
        best = min([best, further], key=lambda numbers: weight_of(weights, numbers))
        struck = lightest_of(weights, covers, best)
