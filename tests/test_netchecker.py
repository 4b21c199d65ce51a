"""[13]: the errors of what should be a net, in their order."""

import random
import unittest

from ownfears import kinds
from ownfears.netchecker import lets_net
from ownfears.netclasses import Lots, Net
from tests import plainwords as plain
from tests.anyvalues import EVERY_KIND, double_mutants, mutants
from tests.sameness import outcome, same
from tests.smallnets import LONE, LOST, MEEK, NAMED, NINE, OWN, SMALL, SPECIAL, TWO, WIDE

A, B, AB = ("a",), ("b",), ("a", "b")

FAULTS = [
    # One entry of the list at a time.
    (None, "shape", -1),
    ([], "shape", -1),
    ((), "shape", -1),
    ((AB,), "shape", -1),
    ((AB, ((A,), (B,)), ()), "shape", -1),
    ([AB, ((A,), (B,))], "shape", -1),
    ((["a", "b"], ((A,), (B,))), "shape", -1),
    ((AB, [(A,), (B,)]), "shape", -1),
    (((), ()), "shape", -1),
    ((AB, ((A,),)), "shape", -1),
    ((AB, ((A,), (B,), (A,))), "shape", -1),
    (("ab", ((A,), (B,))), "shape", -1),
    ((("A", "b"), ((A,), (B,))), "house", 0),
    ((("a", 1), ((A,), (A,))), "house", 1),
    ((("b", "a"), ((A,), (B,))), "house", 1),
    ((("a", "a"), ((A,), (A,))), "house", 1),
    ((("a", True), ((A,), (A,))), "house", 1),
    ((AB, ((), (B,))), "family", 0),
    ((AB, ((A,), [B])), "family", 1),
    ((AB, ((A,), (B, "a"))), "family", 1),
    ((AB, ((A,), (["b"],))), "family", 1),
    ((AB, (None, (B,))), "family", 0),
    ((AB, ((A,), (("c",),))), "lot", (1, 0)),
    ((AB, ((("b", "a"),), (B,))), "lot", (0, 0)),
    ((AB, ((("a", "a"),), (B,))), "lot", (0, 0)),
    ((AB, (((1,),), (B,))), "lot", (0, 0)),
    ((AB, ((B, A), (B,))), "lot", (0, 1)),
    ((AB, ((A, A), (B,))), "lot", (0, 1)),
    ((AB, ((A, AB), (B,))), "within", (0, 1)),
    ((AB, ((A,), ((), B))), "within", (1, 1)),
    ((AB, ((AB, B), (B,))), "within", (0, 1)),
    # Two at once: the first one is told.
    ((("A",), ()), "shape", -1),
    ((("b", "a"), ((), (B,))), "house", 1),
    ((("B", "A"), ((), ())), "house", 0),
    ((AB, (((("a", "b"), 1),), ())), "lot", (0, 0)),
    ((AB, (("a", ("c",)), ())), "family", 0),
    ((AB, (((), ("c",)), ())), "lot", (0, 1)),
    ((AB, ((A, AB, ("c",)), ())), "within", (0, 1)),
    ((AB, ((A, AB), ())), "within", (0, 1)),
    ((AB, ((A,), (B, A), (A,))), "shape", -1),
    ((AB, ((AB, A), (A, AB))), "lot", (0, 1)),
    ((AB, ((A,), ((), A, B))), "within", (1, 1)),
]


class NetCheckerTest(unittest.TestCase):
    def test_counts(self):
        self.assertEqual([lets_net(net) for net in (OWN, MEEK, LONE, LOST, WIDE)], [14, 6, 1, 1, 4])
        self.assertEqual(lets_net(NINE), 20 + 14 + 1)
        self.assertEqual(lets_net(thing=OWN), 14)
        for net in SMALL + SPECIAL:
            self.assertTrue(same(lets_net(net), sum(len(family) for family in net[1])))

    def test_each_entry(self):
        for thing, word, at in FAULTS:
            with self.subTest(thing=thing):
                self.assertTrue(same(outcome(lets_net, thing), ("InvalidPaper", word, at)), outcome(lets_net, thing))

    def judged(self, thing):
        wanted = next(plain.net_errors(thing), None)
        found = outcome(lets_net, thing)
        if wanted is None:
            self.assertEqual(found[0], "returns", thing)
            self.assertTrue(plain.is_net(thing))
        else:
            self.assertTrue(same(found, ("InvalidPaper",) + wanted), (thing, found, wanted))
        self.assertIs(kinds.is_net(thing), wanted is None)

    def test_every_kind_of_value(self):
        for thing in EVERY_KIND + [Net.of(OWN), Lots(), (Net.of(OWN), Lots())]:
            self.judged(thing)

    def test_one_fault(self):
        for net in (LONE, TWO, WIDE, MEEK, NAMED):
            for thing in mutants(net):
                self.judged(thing)

    def test_two_faults(self):
        rng = random.Random(1)
        for net in (TWO, WIDE, MEEK):
            for thing in double_mutants(net, rng, 1500):
                self.judged(thing)


if __name__ == "__main__":
    unittest.main()
