"""[33], [37], [38], [39], (G5), (G6): the least price, the least strikes, strike papers and their checker."""

import itertools
import random
import unittest

from ownfears.covers import first_cover, has_cover
from ownfears.netchanges import struck
from ownfears.strikechecker import lets_strikes
from ownfears.strikes import least_price, least_strikes, strike_paper
from tests import plainpapers as papers
from tests import plainwords as plain
from tests.anyvalues import EVERY_KIND, double_mutants, mutants
from tests.sameness import outcome, same
from tests.smallnets import CALM, FOUR, LONE, LOST, MEEK, NAMED, NINE, ONES, OWN, SMALL, SPECIAL, TWO, WIDE, drawn_net, drawn_nets

ALL = (1, 1, 1, 1)
TWO_PAPER = (2, (("a", ("b",)),), ("split", ("a", "b", ("b",), ("a",), ("b",), ("a",)), (("paid",), ("paid",))))
TWO_PRICES = ((2,), (3,))
OWN_PRICES = ((3, 5), ALL, ALL, ALL)
# Each house fears two of three lots that together are all houses.
TIGHT = (("a", "b", "c"), ((("a", "b"), ("c",)), (("a",), ("b", "c")), (("a", "c"), ("b",))))


def pairs_of(net):
    return [(house, lot) for house, family in zip(*net) for lot in family]


def all_strikes(net):
    return [tuple(strikes) for strikes in plain.subsets(pairs_of(net))]


def ones(net):
    """The prices of 1 throughout."""
    return tuple((1,) * len(family) for family in net[1])


def drawn_prices(rng, net, some):
    return tuple(tuple(rng.choice(some) for _ in family) for family in net[1])


def times(prices, n):
    return tuple(tuple(n * one for one in row) for row in prices)


def size(tree):
    return 1 if tree == ("paid",) else 1 + sum(map(size, tree[2]))


class LeastTest(unittest.TestCase):
    def judged(self, net, prices):
        """Compare with what all sets of lots tell."""
        good = [strikes for strikes in all_strikes(net) if not plain.has_cover(papers.behind(net, strikes))]
        price = min(papers.price_of(net, prices, strikes) for strikes in good)
        first = min(strikes for strikes in good if papers.price_of(net, prices, strikes) == price)
        self.told(net, prices, price, first)
        return good

    def told(self, net, prices, price, first):
        self.assertTrue(same(least_price(net, prices), price), (net, prices))
        self.assertTrue(same(least_strikes(net, prices), first), (net, prices, least_strikes(net, prices), first))
        paper = strike_paper(net, prices)
        self.assertEqual(next(papers.strike_errors(net, prices, paper), None), None, (net, prices, paper))
        self.assertTrue(same(paper[0], price))
        self.assertTrue(same(lets_strikes(net, prices, paper), price))
        self.assertEqual(price == 0, not has_cover(net))
        self.assertIs(has_cover(struck(net, first)), False)
        self.assertFalse([pair for pair in first if pair[1] == ()])

    def test_of_the_document(self):
        self.assertEqual([least_price(OWN, OWN_PRICES), least_strikes(OWN, OWN_PRICES), least_price(FOUR, (ALL,) * 4)], [3, (("a", ("b",)),), 0])
        self.assertEqual(least_strikes(OWN, ((4, 5), ALL, ALL, ALL)), (("b", ("a",)), ("c", ("a",)), ("d", ("a",))))

    def test_all_small_nets(self):
        rng = random.Random(301)
        for net in SMALL:
            self.judged(net, ones(net))
            for _ in range(3):
                self.judged(net, drawn_prices(rng, net, (1, 2, 3, 10 ** 59)))

    def test_drawn_nets(self):
        rng = random.Random(302)
        many = 0
        for net in drawn_nets(303, 900, 2, 5) + [OWN, MEEK, TWO, WIDE, LOST, LONE, NAMED, TIGHT]:
            if len(pairs_of(net)) <= 8:
                good = self.judged(net, drawn_prices(rng, net, rng.choice([(1,), (1, 2), (1, 2, 3, 5, 8), (10 ** 58, 10 ** 59)])))
                many += () not in good
        self.assertGreater(many, 100)

    def test_larger_nets(self):
        rng = random.Random(304)
        for net in [drawn_net(rng, tuple("abcdefghi"[:rng.randint(4, 7)]), 5) for _ in range(60)]:
            prices = drawn_prices(rng, net, (1, 2, 3, 4))
            self.told(net, prices, least_price(net, prices), least_strikes(net, prices))
        for net in (NINE, CALM):
            self.told(net, ones(net), least_price(net, ones(net)), least_strikes(net, ones(net)))

    def test_named_edges(self):
        # No cover; a lot of all houses; nothing but empty lots; two strikes of the same price.
        self.told(FOUR, (ALL,) * 4, 0, ())
        self.told(LONE, ((7,),), 0, ())
        self.told(LOST, ((7,),), 7, (("a", ("a",)),))
        self.told(WIDE, ((1,), (5,), (1, 1)), 2, (("a", ("a", "b", "c")), ("c", ("a",))))
        self.told(TWO, ((2,), (2,)), 2, (("a", ("b",)),))
        self.told(TWO, ((2,), (1,)), 1, (("b", ("a",)),))
        self.told(TWO, ((10 ** 60,), (10 ** 60 - 1,)), 10 ** 60 - 1, (("b", ("a",)),))
        self.told(OWN, ((3, 3), ALL, ALL, ALL), 3, (("a", ("b",)),))
        self.told(OWN, ((4, 3), ALL, ALL, ALL), 3, (("a", ("c", "d")),))
        self.told(OWN, ((3, 3), (1, 1, 1, 9), ALL, ALL), 3, (("a", ("b",)),))
        self.told((("a", "b"), (((),), (("a", "b"),))), ((1,), (4,)), 4, (("b", ("a", "b")),))

    def test_the_first_of_several(self):
        # At one price more strikes may come first: a set is less by its first pair.
        net = (("a", "b"), ((("a",), ("b",)), (("a",), ("b",))))
        self.assertEqual(least_price(net, ((1, 1), (1, 1))), 2)
        self.judged(net, ((1, 1), (1, 1)))
        self.judged(net, ((1, 2), (3, 1)))
        self.judged(TIGHT, ones(TIGHT))

    def test_prices_times_a_number(self):
        rng = random.Random(305)
        for net in drawn_nets(306, 150, 2, 5):
            prices = drawn_prices(rng, net, (1, 2, 3))
            for n in (2, 7, 10 ** 20):
                self.assertEqual(least_price(net, times(prices, n)), n * least_price(net, prices))
                self.assertEqual(least_strikes(net, times(prices, n)), least_strikes(net, prices))
            self.assertLessEqual(least_price(net, prices), sum(map(sum, prices)))

    def test_strikes_and_others(self):
        # (G5), and striking an empty lot changes nothing.
        for net in drawn_nets(307, 120, 2, 4):
            if len(pairs_of(net)) <= 7:
                calm = [strikes for strikes in all_strikes(net) if not has_cover(struck(net, tuple(sorted(strikes))))]
                for strikes in all_strikes(net):
                    if any(set(one) <= set(strikes) for one in calm):
                        self.assertIn(strikes, calm)
                for house, lot in pairs_of(net):
                    if lot == ():
                        self.assertEqual(struck(net, ((house, lot),)), net)

    def test_by_name_and_unchanged(self):
        before = repr((OWN, OWN_PRICES))
        for function in (least_price, least_strikes, strike_paper):
            self.assertTrue(same(function(prices=OWN_PRICES, net=OWN), function(OWN, OWN_PRICES)))
        self.assertEqual(lets_strikes(thing=TWO_PAPER, prices=TWO_PRICES, net=TWO), 2)
        self.assertEqual(repr((OWN, OWN_PRICES)), before)

    def test_papers_are_not_large(self):
        for net, prices, most in [(FOUR, (ALL,) * 4, 1), (OWN, OWN_PRICES, 30), (TWO, TWO_PRICES, 3), (LOST, ((7,),), 2), (TIGHT, ones(TIGHT), 60)]:
            self.assertLessEqual(size(strike_paper(net, prices)[2]), most, net)


class RefusedTest(unittest.TestCase):
    def test_prices(self):
        rng = random.Random(308)
        for net, prices in [(OWN, OWN_PRICES), (TWO, TWO_PRICES), (LONE, ((1,),))]:
            for thing in itertools.chain(EVERY_KIND, mutants(prices), double_mutants(prices, rng, 300)):
                for function in (least_price, least_strikes, strike_paper, lambda net, prices: lets_strikes(net, prices, None)):
                    found = outcome(function, net, thing)
                    if papers.are_prices(net, thing):
                        self.assertNotEqual(found[0], "NotUsable")
                    else:
                        self.assertTrue(same(found, ("NotUsable", "prices", -1)), (thing, found))

    def test_in_order(self):
        for function in (least_price, least_strikes, strike_paper, lambda net, prices: lets_strikes(net, prices, TWO_PAPER)):
            for net in EVERY_KIND:
                if not plain.is_net(net):
                    self.assertTrue(same(outcome(function, net, TWO_PRICES), ("NotUsable", "net", -1)))
                    self.assertTrue(same(outcome(function, net, net), ("NotUsable", "net", -1)))
            for prices in [((2,), (0,)), ((2,), (-1,)), ((2,), (True,)), ((2,), ("1",)), ((2,),), ((2,), (3,), (1,)), ((2, 2), (3,)), ((), (3,)), [(2,), (3,)], ((2,), [3]), ((2,), 3), None]:
                self.assertTrue(same(outcome(function, TWO, prices), ("NotUsable", "prices", -1)))
            self.assertTrue(same(outcome(function, OWN, TWO_PRICES), ("NotUsable", "prices", -1)))


class LetsStrikesTest(unittest.TestCase):
    def judged(self, net, prices, thing):
        error = next(papers.strike_errors(net, prices, thing), None)
        wanted = ("InvalidPaper",) + error if error else ("returns", thing[0])
        found = outcome(lets_strikes, net, prices, thing)
        self.assertTrue(same(found, wanted), (thing, found, wanted))
        return found

    def refused(self, thing, word, at, net=TWO, prices=TWO_PRICES):
        self.assertTrue(same(self.judged(net, prices, thing), ("InvalidPaper", word, at)), (thing, word, at))

    def test_of_the_document(self):
        self.assertEqual(lets_strikes(TWO, TWO_PRICES, TWO_PAPER), 2)
        self.refused(TWO_PAPER, "paid", (1,), prices=((2,), (1,)))

    def test_the_price_and_the_strikes(self):
        _, strikes, tree = TWO_PAPER
        for thing in EVERY_KIND + [list(TWO_PAPER), TWO_PAPER[:2], TWO_PAPER + (1,)]:
            if not (type(thing) is tuple and len(thing) == 3):
                self.refused(thing, "shape", -1)
        for price in (None, -1, True, "2", (2,), []):
            self.refused((price, strikes, tree), "price", -1)
            self.refused((price, None, None), "price", -1)
        for wrong in (None, (), (("a", ("a",)),), (("b", ("a",)),), (("a", ("b",)), ("b", ("a",))), [("a", ("b",))], strikes * 2, (("c", ()),), ("a", ("b",)), (None,), ((),)):
            self.refused((2, wrong, tree), "strikes", -1)
            self.refused((2, wrong, None), "strikes", -1)
        for price in (0, 1, 3, 10 ** 20):
            self.refused((price, strikes, tree), "strikes", -1)
        self.refused((5, (("b", ("a",)), ("a", ("b",))), tree), "strikes", -1)
        self.refused((0, (), tree), "cover", -1)
        self.refused((0, (), None), "cover", -1)
        # Strikes of a greater price are none of the least price: the tree tells it.
        self.refused((3, (("b", ("a",)),), tree), "paid", (0,))
        self.refused((5, (("a", ("b",)), ("b", ("a",))), tree), "paid", (0,))

    def test_empty_lots_among_the_strikes(self):
        net, prices = (("a", "b", "c"), ((("a", "b", "c"),), ((),), (("b",),))), ((2,), (1,), (1,))
        paper = strike_paper(net, prices)
        self.assertEqual(paper[:2], (2, (("a", ("a", "b", "c")),)))
        more = (("a", ("a", "b", "c")), ("b", ()))
        self.refused((3, more, paper[2]), "paid", (0,), net, prices)
        self.refused((2, more, paper[2]), "strikes", -1, net, prices)

    def test_nodes(self):
        price, strikes, tree = TWO_PAPER
        _, cover, branches = tree
        for node in EVERY_KIND + [("paid", ()), ["paid"], "paid", ("split",), ("split", cover), ("split", cover, list(branches)), ("split", cover, branches, ()), ("Split", cover, branches),
                                  ("paid", cover, branches), ("split", cover, None)]:
            self.refused((price, strikes, node), "node", ())
            self.refused((price, strikes, ("split", cover, (node, ("paid",)))), "node", (0,))
            self.refused((price, strikes, ("split", cover, (("paid",), node))), "node", (1,))
        self.refused((price, strikes, ("paid",)), "paid", ())
        for wrong in (None, (), cover[:5], ("a", "b", ("a",), ("a",), ("b",), ("a",)), ("a", "a", ("b",), ("b",), ("b",), ("b",)), ("a", "c") + cover[2:], list(cover)):
            self.refused((price, strikes, ("split", wrong, branches)), "split", ())
            self.refused((price, strikes, ("split", wrong, ())), "split", ())
        for wrong in ((), branches[:1], branches + branches, branches + (None,)):
            self.refused((price, strikes, ("split", cover, wrong)), "branches", ())
        # The pair is struck behind it: so the same cover is none any more.
        self.refused((price, strikes, ("split", cover, (tree, ("paid",)))), "split", (0,))
        # Two at once: each node ahead of its branches, each branch with all in it ahead of the next one.
        self.refused((price, strikes, ("split", cover, (None, None))), "node", (0,))
        self.refused((price, strikes, ("split", None, (None, None))), "split", ())
        self.refused((price, strikes, ("split", cover, (tree, None))), "split", (0,))
        self.refused((3, (("b", ("a",)),), ("split", cover, (("paid",), None))), "paid", (0,))

    def test_deeper_nodes(self):
        paper = strike_paper(OWN, ((4, 5), ALL, ALL, ALL))
        self.assertEqual(paper[:2], (3, (("b", ("a",)), ("c", ("a",)), ("d", ("a",)))))
        self.assertEqual(self.judged(OWN, ((4, 5), ALL, ALL, ALL), paper), ("returns", 3))

        def with_node(tree, at, node):
            if at == ():
                return node
            word, cover, branches = tree
            return (word, cover, branches[:at[0]] + (with_node(branches[at[0]], at[1:], node),) + branches[at[0] + 1:])

        def all_at(tree, at=()):
            yield at, tree
            for k, branch in enumerate(tree[2] if tree[0] == "split" else ()):
                yield from all_at(branch, at + (k,))

        for at, node in all_at(paper[2]):
            self.refused(paper[:2] + (with_node(paper[2], at, None),), "node", at, OWN, ((4, 5), ALL, ALL, ALL))
            if node[0] == "split":
                self.refused(paper[:2] + (with_node(paper[2], at, ("paid",)),), "paid", at, OWN, ((4, 5), ALL, ALL, ALL))
                self.refused(paper[:2] + (with_node(paper[2], at, ("split", None, node[2])),), "split", at, OWN, ((4, 5), ALL, ALL, ALL))
                self.refused(paper[:2] + (with_node(paper[2], at, ("split", node[1], node[2][1:])),), "branches", at, OWN, ((4, 5), ALL, ALL, ALL))
            else:
                more = ("split", first_cover(OWN), (("paid",),) * 4)
                self.judged(OWN, ((4, 5), ALL, ALL, ALL), paper[:2] + (with_node(paper[2], at, more),))

    def test_trees_of_one_node(self):
        self.assertEqual(lets_strikes(FOUR, (ALL,) * 4, (0, (), ("paid",))), 0)
        self.refused((0, (), ("split", None, ())), "split", (), FOUR, (ALL,) * 4)
        self.refused((1, (("a", ("a",)),), ("paid",)), "paid", (), FOUR, (ALL,) * 4)
        # A cover whose lots are all empty there is none; one of a lot of all houses has one branch.
        self.assertEqual(lets_strikes(LOST, ((7,),), (7, (("a", ("a",)),), ("split", ("a", "a") + (("a",),) * 4, (("paid",),)))), 7)

    def test_covers_with_empty_lots(self):
        # An empty lot is never struck: no branch is for it.
        net, prices = (("a", "b"), (((),), (("a", "b"),))), ((1,), (4,))
        strikes = (("b", ("a", "b")),)
        for cover in [("a", "b", (), ("a", "b"), (), ("a", "b")), ("b", "a", ("a", "b"), (), ("a", "b"), ()), ("b", "b") + (("a", "b"),) * 4]:
            self.assertEqual(lets_strikes(net, prices, (4, strikes, ("split", cover, (("paid",),)))), 4)
            self.refused((4, strikes, ("split", cover, (("paid",), ("paid",)))), "branches", (), net, prices)

    def test_faults_of_papers(self):
        rng = random.Random(309)
        spare = [None, True, 0, 1, 2, -1, "", "a", "b", "paid", "split", (), ("a",), ("b",), ("paid",), ("a", ("b",)), []]
        for net, prices in [(TWO, TWO_PRICES), (OWN, OWN_PRICES), (LOST, ((7,),)), (WIDE, ((1,), (5,), (1, 1))), (FOUR, (ALL,) * 4)]:
            paper = strike_paper(net, prices)
            things = list(mutants(paper, spare))
            for thing in itertools.chain(EVERY_KIND, rng.sample(things, min(len(things), 700)), double_mutants(paper, rng, 200)):
                self.judged(net, prices, thing)

    def test_no_paper_shows_what_does_not_hold(self):
        # (G6), for the papers of other nets and prices.
        rng = random.Random(310)
        nets = [(net, drawn_prices(rng, net, (1, 2))) for net in drawn_nets(311, 400, 2, 2)]
        some = [strike_paper(net, prices) for net, prices in nets]
        for net, prices in nets[:120]:
            price = least_price(net, prices)
            for paper in rng.sample(some, 60):
                found = self.judged(net, prices, paper)
                if found[0] == "returns":
                    self.assertEqual(found[1], price)

    def test_the_nets_of_the_tests(self):
        for net in SPECIAL:
            self.judged(net, ones(net), strike_paper(net, ones(net)))
        self.assertEqual(least_price((FOUR[0], (ONES,) * 4), (ALL,) * 4), 0)


if __name__ == "__main__":
    unittest.main()
