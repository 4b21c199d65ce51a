"""Trees that show that no strikes cost less than the lightest ones."""

from ownfears.strikesearch import weight_of


class Plan:
    """What a tree is made of: the pairs by their numbers, what they weigh, known covers, and the weight needed."""

    def __init__(self, fears, weights, covers, needed):
        self.pairs = fears.pairs
        self.weights = weights
        self.known = covers
        self.needed = needed
        # Nodes with the same struck numbers are the same, in whatever order these were struck.
        self.nodes = {}


def branches_on(plan, weight, cover):
    """How many branches of the cover still weigh too little, and how many there are."""
    numbers = sorted(set(cover))
    return (len([k for k in numbers if weight + plan.weights[k] < plan.needed]), len(numbers))


def written_cover(plan, cover):
    """The cover with the numbers of these lots."""
    lots = [plan.pairs[k][1] for k in cover]
    return (plan.pairs[cover[0]][0], plan.pairs[cover[1]][0], *lots)


def node_behind(plan, struck):
    """The node where these numbers, ascending, are struck."""
    weight = weight_of(plan.weights, struck)
    if weight >= plan.needed:
        return ("paid",)
    if struck not in plan.nodes:
        left = [one for one in plan.known if not any([k in struck for k in one])]
        cover = min(left, key=lambda own: branches_on(plan, weight, own))
        branches = [node_behind(plan, tuple(sorted(struck + (k,)))) for k in sorted(set(cover))]
        plan.nodes[struck] = ("split", written_cover(plan, cover), tuple(branches))
    return plan.nodes[struck]
