"""[22], [24]: quorums by form, the plain ones, and the checker of those that fit."""

import itertools
import random
import unittest

from ownfears.fitchecker import lets_fit
from ownfears.netclasses import Lots, Net
from ownfears.plainquorums import are_quorums, plain_quorums
from tests import plainwords as plain
from tests.anyvalues import EVERY_KIND, double_mutants, mutants
from tests.sameness import outcome, same
from tests.smallnets import (
    CALM, FOUR, LONE, LOST, MEEK, NAMED, NINE, ONE_HOUSE, OWN, SMALL, TWO, TWO_HOUSES, WIDE, all_nets, all_quorums,
    drawn_nets,
)

THREES = tuple(itertools.combinations("abcd", 3))
AB = (("a", "b"), ((("b",),), ((),)))
NETS = SMALL + [FOUR, OWN, MEEK, WIDE, NAMED, NINE, CALM] + drawn_nets(18, 60)


class PlainQuorumsTest(unittest.TestCase):
    def test_plain_quorums(self):
        for net in NETS:
            houses, fears = net
            found = outcome(plain_quorums, net)
            if any(houses in family for family in fears):
                self.assertTrue(same(found, ("NotPossible", -1)))
                continue
            wanted = tuple(tuple(sorted(tuple(h for h in houses if h not in lot) for lot in family)) for family in fears)
            self.assertTrue(same(found, ("returns", wanted)))
            self.assertTrue(plain.are_quorums(net, wanted))

    def test_edges(self):
        self.assertEqual(plain_quorums(LONE), ((("a",),),))
        self.assertEqual(outcome(plain_quorums, LOST), ("NotPossible", -1))
        self.assertEqual(outcome(plain_quorums, WIDE), ("NotPossible", -1))
        self.assertEqual(plain_quorums(FOUR), (THREES,) * 4)
        self.assertEqual(plain_quorums(net=TWO), ((("a",),), (("b",),)))
        self.assertEqual(len(plain_quorums(NINE)[0]), 20)
        # The first family is fine, and the last house has the lot of all.
        self.assertEqual(outcome(plain_quorums, (("a", "b"), (((),), (("a", "b"),)))), ("NotPossible", -1))


class AreQuorumsTest(unittest.TestCase):
    def test_every_kind_of_value(self):
        for net in (LONE, TWO, WIDE, FOUR):
            for thing in EVERY_KIND + [Net.of(OWN), Lots()]:
                self.assertIs(are_quorums(net, thing), plain.are_quorums(net, thing))
                self.assertIs(are_quorums(thing=thing, net=net), plain.are_quorums(net, thing))

    def test_faulty_forms(self):
        rng = random.Random(19)
        for net, quorums in [(TWO, ((("a",),), (("a",), ("b",)))), (FOUR, (THREES,) * 4), (MEEK, plain_quorums(MEEK))]:
            self.assertIs(are_quorums(net, quorums), True)
            for thing in itertools.chain(mutants(quorums), double_mutants(quorums, rng, 500)):
                self.assertIs(are_quorums(net, thing), plain.are_quorums(net, thing))

    def test_whether_they_fit_or_not(self):
        for net in SMALL:
            for quorums in all_quorums(net[0]):
                self.assertIs(are_quorums(net, quorums), True)

    def test_edges(self):
        self.assertIs(are_quorums(LONE, ((("a",),),)), True)
        self.assertIs(are_quorums(LONE, (((),),)), False)
        self.assertIs(are_quorums(LONE, ((),)), False)
        self.assertIs(are_quorums(LONE, ()), False)
        self.assertIs(are_quorums(LOST, ((("a",),),)), True)
        self.assertIs(are_quorums(TWO, ((("a", "b"),), (("a",), ("a", "b")))), False)
        self.assertIs(are_quorums(TWO, ((("a", "b"),), (((), ("a",))))), False)
        self.assertIs(are_quorums(TWO, ((("a", "b"),), (("a", "b"),), (("a", "b"),))), False)
        self.assertIs(are_quorums(NINE, plain_quorums(NINE)), True)


FAULTS = [
    # One entry of the list at a time, for the net AB: house a fears b, house b nobody.
    (None, "shape", -1),
    ([(("a",),), (("a", "b"),)], "shape", -1),
    ((), "shape", -1),
    (((("a",),),), "shape", -1),
    (((("a",),), (("a",),), (("a",),)), "shape", -1),
    (((), (("a",),)), "family", 0),
    (((("a",),), [("a",)]), "family", 1),
    (((("a",),), ("a",)), "family", 1),
    (((["a"],), (("a",),)), "family", 0),
    ((None, (("a",),)), "family", 0),
    (((("c",),), (("a",),)), "lot", (0, 0)),
    (((("a",),), (("b", "a"),)), "lot", (1, 0)),
    (((("a",),), (("b",), ("a",))), "lot", (1, 1)),
    (((("a",), ("a",)), (("a",),)), "lot", (0, 1)),
    (((("a",), (1,)), (("a",),)), "lot", (0, 1)),
    ((((),), (("a",),)), "empty", (0, 0)),
    (((("a",),), ((), ("a",))), "empty", (1, 0)),
    (((("a",), ("a", "b")), (("a",),)), "within", (0, 1)),
    (((("a", "b"), ("b",)), (("a",),)), "within", (0, 1)),
    (((("a", "b"),), (("a",),)), "available", (0, 0)),
    (((("b",),), (("a",),)), "available", (0, 0)),
    (((("a",),), (("b",),)), "agree", (0, 1, 0, 0)),
    (((("a",), ("b",)), (("b",),)), "agree", (0, 0, 0, 1)),
    # Two at once: the first one is told.
    ((((),), ()), "empty", (0, 0)),
    ((((), ("c",)), (("a",),)), "empty", (0, 0)),
    (((("a",), ()), (("a",),)), "lot", (0, 1)),
    (((("a",), ("a", "b")), ((),)), "within", (0, 1)),
    (((("b",),), ((),)), "empty", (1, 0)),
    (((("b",),), (("a",), ("a", "b"))), "within", (1, 1)),
    (((("b",),), ()), "family", 1),
    (((("b",),), (("b",),)), "available", (0, 0)),
    (((("c",), ()), ()), "lot", (0, 0)),
    ((((), ()), (("b",), ("a",))), "empty", (0, 0)),
]


class FitCheckerTest(unittest.TestCase):
    def judged(self, net, thing):
        wanted = next(plain.fit_errors(net, thing), None)
        found = outcome(lets_fit, net, thing)
        if wanted is None:
            self.assertTrue(same(found, ("returns", sum(len(family) for family in thing))), (net, thing, found))
            self.assertTrue(plain.are_quorums(net, thing) and plain.fits(net, thing))
        else:
            self.assertTrue(same(found, ("InvalidPaper",) + wanted), (net, thing, found, wanted))

    def test_each_entry(self):
        self.assertEqual(lets_fit(AB, ((("a",),), (("a",),))), 2)
        for thing, word, at in FAULTS:
            with self.subTest(thing=thing):
                self.assertTrue(same(outcome(lets_fit, AB, thing), ("InvalidPaper", word, at)), outcome(lets_fit, AB, thing))

    def test_every_kind_of_value(self):
        for net in (LONE, AB, FOUR):
            for thing in EVERY_KIND + [Net.of(OWN), Lots()]:
                self.judged(net, thing)

    def test_plain_ones(self):
        self.assertEqual(lets_fit(MEEK, plain_quorums(MEEK)), 6)
        self.assertEqual(lets_fit(thing=plain_quorums(FOUR), net=FOUR), 16)
        self.assertEqual(lets_fit(NINE, plain_quorums(NINE)), 35)
        self.assertEqual(lets_fit(CALM, plain_quorums(CALM)), 180)
        self.assertEqual(outcome(lets_fit, OWN, plain_quorums(OWN)), ("InvalidPaper", "agree", (0, 1, 0, 3)))
        for net in NETS:
            if not any(net[0] in family for family in net[1]) and net not in (NINE, CALM):
                self.judged(net, plain_quorums(net))

    def test_one_fault_and_two(self):
        rng = random.Random(20)
        for net, quorums in [(AB, ((("a",),), (("a",),))), (FOUR, (THREES,) * 4), (MEEK, plain_quorums(MEEK))]:
            for thing in itertools.chain(mutants(quorums), double_mutants(quorums, rng, 600)):
                self.judged(net, thing)

    def test_all_quorums_of_small_nets(self):
        for net in SMALL:
            for quorums in all_quorums(net[0]):
                self.judged(net, quorums)

    def test_drawn_quorums(self):
        rng = random.Random(21)
        threes = all_nets(("a", "b", "c"))
        quorums = all_quorums(("a", "b", "c"))
        for _ in range(3000):
            self.judged(rng.choice(threes), rng.choice(quorums))

    def test_the_least_pair_that_does_not_agree(self):
        # Quorums of a house with itself come in, one with itself, too, and two that share nobody.
        self.assertEqual(outcome(lets_fit, LOST, ((("a",),),)), ("InvalidPaper", "available", (0, 0)))
        net = (("a", "b"), ((("a",), ("b",)), ((),)))
        self.assertEqual(outcome(lets_fit, net, ((("a",), ("b",)), (("a",),))), ("InvalidPaper", "agree", (0, 0, 0, 0)))
        self.assertEqual(outcome(lets_fit, (("a", "b"), (((),), ((),))), ((("a",),), (("b",),))),
                         ("InvalidPaper", "agree", (0, 1, 0, 0)))
        self.assertEqual(outcome(lets_fit, (("a", "b"), (((),), ((),))), ((("a", "b"),), (("a",), ("b",)))),
                         ("InvalidPaper", "agree", (1, 1, 0, 1)))


class FirstGeneralRuleTest(unittest.TestCase):
    """(G1): quorums that fit a net are there exactly if it has no cover; then the plain ones fit."""

    def fitting(self, net):
        return [quorums for quorums in all_quorums(net[0]) if outcome(lets_fit, net, quorums)[0] == "returns"]

    def test_all_quorums_of_small_nets(self):
        for net in ONE_HOUSE + TWO_HOUSES:
            some = self.fitting(net)
            self.assertEqual(bool(some), not plain.all_covers(net))
            if some:
                self.assertIn(plain_quorums(net), some)

    def test_plain_quorums_of_all_nets_of_three_houses(self):
        for net in all_nets(("a", "b", "c")):
            possible = not any(net[0] in family for family in net[1])
            fit = possible and outcome(lets_fit, net, plain_quorums(net))[0] == "returns"
            self.assertEqual(fit, not plain.has_cover(net))

    def test_no_quorums_fit_a_net_with_a_cover(self):
        rng = random.Random(22)
        nets = [net for net in all_nets(("a", "b", "c")) if plain.has_cover(net)]
        quorums = all_quorums(("a", "b", "c"))
        for net in rng.sample(nets, 150):
            for some in rng.sample(quorums, 40):
                self.assertEqual(outcome(lets_fit, net, some)[0], "InvalidPaper")

    def test_a_lot_of_all_houses_leaves_no_quorums(self):
        for net in SMALL:
            if any(net[0] in family for family in net[1]):
                for quorums in all_quorums(net[0]):
                    self.assertEqual(outcome(lets_fit, net, quorums)[1], "available")


if __name__ == "__main__":
    unittest.main()
