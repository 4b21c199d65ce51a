"""[30], [32]: good falls, good papers and their checker."""

import itertools
import random
import unittest

from ownfears.goodchecker import lets_good
from ownfears.goodfalls import good_falls, good_paper
from ownfears.netclasses import Lots, Net
from ownfears.plainquorums import plain_quorums
from tests import plainguilds as guilds
from tests import plainwords as plain
from tests.anyvalues import EVERY_KIND, double_mutants, mutants
from tests.sameness import outcome, same
from tests.smallnets import CALM, CALM_PAIRS, FOUR, LONE, LOST, MEEK, NINE, OWN, SMALL, TWO, all_quorums
from tests.smallsettings import ABC, ABC_QUORUMS, MEEK_QUORUMS, THREES
from tests.test_guilds import PAIRS

AB = (("a", "b"), ((("b",),), (("a",),)))
EACH = ((("a",),), (("b",),))


class GoodFallsTest(unittest.TestCase):
    def judged(self, net, quorums):
        good = {fall: set().union(*guilds.guilds(net, quorums, fall)) for fall in plain.subsets(net[0])}
        for house in net[0]:
            some = [fall for fall in good if house in good[fall]]
            wanted = plain.maximal(some)
            self.assertTrue(same(good_falls(net, quorums, house), wanted))
            # [32]: good for a house exactly within one of good_falls; the empty fall always is.
            for fall in good:
                self.assertIs(fall in some, any(set(fall) <= set(greatest) for greatest in wanted))
            self.assertIn((), some)
            paper = good_paper(net, quorums, house)
            self.assertEqual(next(guilds.good_errors(net, quorums, house, paper), None), None)
            self.assertTrue(same(lets_good(net, quorums, house, paper), len(wanted)))
            self.assertEqual(tuple(fall for fall, _ in paper[0]), wanted)

    def test_all_quorums_of_small_nets(self):
        for net in SMALL:
            for quorums in all_quorums(net[0]):
                self.judged(net, quorums)

    def test_drawn_quorums(self):
        for net, quorums in PAIRS:
            self.judged(net, quorums)

    def test_edges(self):
        self.assertEqual(good_falls(FOUR, THREES, "a"), (("b",), ("c",), ("d",)))
        self.assertEqual(good_falls(MEEK, MEEK_QUORUMS, "b"), ((),))
        self.assertEqual(good_falls(LONE, ((("a",),),), "a"), ((),))
        self.assertEqual(good_falls(LOST, ((("a",),),), "a"), ((),))
        self.assertEqual(good_paper(AB, EACH, "a"), (((("b",), ("a",)),), ((("a",), (("a",),)),)))
        # Nine houses, twenty lots and quorums: the lots that lack the house itself.
        wanted = tuple(lot for lot in CALM_PAIRS if "i" not in lot)
        self.assertEqual((good_falls(CALM, plain_quorums(CALM), "i"), len(wanted)), (wanted, 18))
        self.assertEqual(lets_good(CALM, plain_quorums(CALM), "i", good_paper(CALM, plain_quorums(CALM), "i")), 18)
        self.assertEqual(good_falls(NINE, plain_quorums(NINE), "i"), ((),))

    def test_by_name(self):
        given = {"house": "b", "quorums": MEEK_QUORUMS, "net": MEEK}
        self.assertEqual(good_falls(**given), ((),))
        self.assertEqual(lets_good(thing=good_paper(**given), **given), 1)


GOOD = ((("b",), ("a",)),)
BAD = ((("a",), (("a",),)),)
# One entry of the list at a time, and two at once, for house a of AB: each house is a quorum of its own.
FAULTS = [
    (None, "shape", -1), ((GOOD,), "shape", -1), ([GOOD, BAD], "shape", -1), ((GOOD, list(BAD)), "shape", -1),
    ((list(GOOD), BAD), "shape", -1), ((GOOD, BAD, ()), "shape", -1), ((GOOD, None), "shape", -1), (("", ()), "shape", -1),
    ((((),), BAD), "good", 0), (((None,), BAD), "good", 0), ((((("b",), ("a",), ()),), BAD), "good", 0),
    ((([("b",), ("a",)],), BAD), "good", 0), ((((("x",), ("a",)),), BAD), "good", 0), (((("b", ("a",)),), BAD), "good", 0),
    ((((("b",), ()),), BAD), "good", 0), ((((("b",), ("b",)),), BAD), "good", 0), ((((("b",), ("a", "b")),), BAD), "good", 0),
    ((((("b",), ("x",)),), BAD), "good", 0), ((((("a",), ("b",)),), BAD), "good", 0), ((((("a",), ("a",)),), BAD), "good", 0),
    (((((), ("b",)),), BAD), "good", 0), ((GOOD + GOOD, BAD), "good", 1), ((GOOD + (((), ("a",)),), BAD), "good", 1),
    (((((), ("a",)),) + GOOD, BAD), "within", 1), (((((), ("a", "b")),) + GOOD, BAD), "within", 1),
    ((GOOD, (None,)), "bad", 0), ((GOOD, BAD + ((),)), "bad", 1), ((GOOD, ((("a",), (("a",),), ()),)), "bad", 0),
    ((GOOD, ([("a",), (("a",),)],)), "bad", 0), ((GOOD, ((("x",), (("a",),)),)), "bad", 0), ((GOOD, (("a", (("a",),)),)), "bad", 0),
    ((GOOD, ((("a",), [("a",)]),)), "bad", 0), ((GOOD, ((("a",), ((),)),)), "bad", 0), ((GOOD, ((("a",), ("a",)),)), "bad", 0),
    ((GOOD, ((("a",), (("x",),)),)), "bad", 0), ((GOOD, ((("a",), (("a",), ("a",))),)), "bad", 0),
    ((GOOD, ((("a",), ()),)), "bad", 0), ((GOOD, ((("a",), (("b",),)),)), "bad", 0), ((GOOD, (((), (("a",),)),)), "bad", 0),
    ((GOOD, ((("b",), (("b",),)),)), "bad", 0), ((GOOD, ((("a", "b"), (("b",),)),)), "bad", 0),
    ((GOOD, ((("b",), (("b",), ("a",))),)), "bad", 0),
    (((), ()), "fall", ()), (((), BAD), "fall", ()), ((GOOD, ()), "fall", ("a",)), (((((), ("a",)),), BAD), "fall", ("b",)),
    (((((), ("a", "b")),), BAD), "fall", ("b",)), ((GOOD, ((("a", "b"), (("a",),)),)), "fall", ("a",)),
    # Two at once.
    ((((("x",), ("a",)),), (None,)), "good", 0), (((((), ("a",)),) + GOOD, (None,)), "within", 1),
    ((((("b",), ()), ((), ("a",))), BAD), "good", 0), (((), (None,)), "bad", 0), ((GOOD, (None, ())), "bad", 0),
    (((((), ("a",)), (("b",), ("a",)), None), BAD), "within", 1), ((GOOD, list((None,))), "shape", -1),
]


class GoodCheckerTest(unittest.TestCase):
    def judged(self, net, quorums, house, thing):
        wanted = next(guilds.good_errors(net, quorums, house, thing), None)
        found = outcome(lets_good, net, quorums, house, thing)
        if wanted is None:
            good = plain.maximal([fall for fall in plain.subsets(net[0]) if guilds.is_good(net, quorums, fall, house)])
            self.assertTrue(same(found, ("returns", len(good))), (net, quorums, house, thing, found))
            self.assertEqual(tuple(fall for fall, _ in thing[0]), good)
        else:
            self.assertTrue(same(found, ("InvalidPaper",) + wanted), (net, quorums, house, thing, found, wanted))

    def test_each_entry(self):
        self.assertEqual(lets_good(AB, EACH, "a", (GOOD, BAD)), 1)
        for thing, word, at in FAULTS:
            found = outcome(lets_good, AB, EACH, "a", thing)
            self.assertTrue(same(found, ("InvalidPaper", word, at)), (thing, found))
            self.judged(AB, EACH, "a", thing)

    def test_falls_in_another_order_and_within_others(self):
        goods, bads = good_paper(FOUR, THREES, "a")
        self.assertEqual([fall for fall, _ in goods], [("b",), ("c",), ("d",)])
        for some in itertools.permutations(goods):
            self.judged(FOUR, THREES, "a", (some, bads))
        # Each house alone is enough: so falls may be greater, and lie within each other.
        free = (("a", "b", "c"), ((("b", "c"),), ((),), ((),)))
        alone = ((("a",),), (("b",),), (("c",),))
        some = [(fall, ("a",)) for fall in ((), ("b",), ("b", "c"), ("c",))]
        bad = ((("a",), (("a",),)),)
        for size in (1, 2, 3):
            for pairs in itertools.product(some, repeat=size):
                self.judged(free, alone, "a", (pairs, bad))
        self.assertEqual(lets_good(free, alone, "a", ((some[2],), bad)), 1)
        self.assertEqual(outcome(lets_good, free, alone, "a", ((some[2], some[3]), bad)), ("InvalidPaper", "within", 1))
        self.assertEqual(outcome(lets_good, free, alone, "a", ((some[1], some[2]), bad)), ("InvalidPaper", "within", 1))
        self.assertEqual(outcome(lets_good, free, alone, "a", ((some[3], some[1]), bad)), ("InvalidPaper", "good", 1))

    def test_every_kind_of_value(self):
        for net, quorums in [(FOUR, THREES), (ABC, ABC_QUORUMS), (LONE, ((("a",),),))]:
            for thing in EVERY_KIND + [Net.of(OWN), Lots(), (GOOD, Lots()), ((Lots(),), ()), ((), ((Lots(), ()),))]:
                self.judged(net, quorums, "a", thing)

    def test_one_fault_and_two(self):
        rng = random.Random(61)
        for net, quorums, house in [(AB, EACH, "b"), (ABC, ABC_QUORUMS, "a"), (MEEK, MEEK_QUORUMS, "c"), (TWO, EACH, "a")]:
            paper = good_paper(net, quorums, house)
            for thing in itertools.chain(mutants(paper), double_mutants(paper, rng, 500)):
                self.judged(net, quorums, house, thing)

    def test_parts_left_out_and_other_ones(self):
        rng = random.Random(62)
        for net, quorums in PAIRS[::3] + [(FOUR, THREES)]:
            house = rng.choice(net[0])
            goods, bads = good_paper(net, quorums, house)
            # bads may stand in any order, and more than once.
            self.assertEqual(lets_good(net, quorums, house, (goods, bads[::-1] + bads)), len(goods))
            for k in range(len(goods)):
                self.judged(net, quorums, house, (goods[:k] + goods[k + 1:], bads))
            for k in range(len(bads)):
                self.judged(net, quorums, house, (goods, bads[:k] + bads[k + 1:]))
            self.judged(net, quorums, house, (goods[::-1], bads))
            self.judged(net, quorums, house, (tuple((fall, guild[:-1]) for fall, guild in goods), bads))
            self.judged(net, quorums, house, (goods, tuple((fall, rounds[1:]) for fall, rounds in bads)))
            self.judged(net, quorums, house, (goods, tuple((fall[1:], rounds) for fall, rounds in bads)))

    def test_refused_in_order(self):
        for args, word in [
            ((None, None, None, None), "net"), ((OWN, None, None, None), "quorums"), ((OWN, THREES, None, None), "house"),
            ((OWN, THREES, "e", None), "house"), ((OWN, THREES[1:], "e", None), "quorums"), ((OWN, THREES, ("a",), None), "house"),
        ]:
            for function in (lambda *args: good_falls(*args[:3]), lambda *args: good_paper(*args[:3]), lets_good):
                self.assertTrue(same(outcome(function, *args), ("NotUsable", word, -1)), args)


if __name__ == "__main__":
    unittest.main()
