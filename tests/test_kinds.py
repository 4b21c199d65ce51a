"""[12]: whether any value is an integer, a name, houses, a net, a lot, a family."""

import itertools
import random
import unittest

from ownfears import kinds
from ownfears.netclasses import Lots, Net
from tests import plainwords as plain
from tests.anyvalues import EVERY_KIND, double_mutants, mutants
from tests.sameness import outcome
from tests.smallnets import FOUR, LONE, LOST, MEEK, NINE, OWN, SPECIAL, TWO, WIDE, families

OBJECTS = [Net.of(OWN), Lots(("a",))]


class KindsTest(unittest.TestCase):
    def agrees(self, found, wanted, value):
        self.assertIs(found, wanted, repr(value)[:200])

    def test_every_kind_of_value(self):
        pairs = [
            (kinds.is_integer, plain.is_integer), (kinds.is_number, plain.is_number), (kinds.is_name, plain.is_name),
            (kinds.are_houses, plain.are_houses), (kinds.is_net, plain.is_net),
        ]
        for thing in EVERY_KIND + OBJECTS + [tuple(OBJECTS)]:
            for function, wanted in pairs:
                self.agrees(function(thing), wanted(thing), thing)
                self.agrees(function(thing=thing), wanted(thing), thing)
            for houses in (("a",), ("a", "b"), ("a", "x")):
                self.agrees(kinds.is_lot(houses, thing), plain.is_lot(houses, thing), thing)
                self.agrees(kinds.is_family(houses, thing), plain.is_family(houses, thing), thing)
                self.agrees(kinds.is_lot(houses=houses, thing=thing), plain.is_lot(houses, thing), thing)
                self.agrees(kinds.is_family(thing=thing, houses=houses), plain.is_family(houses, thing), thing)

    def test_integers(self):
        self.assertEqual([kinds.is_integer(v) for v in (0, -1, 10 ** 59, True, False, "1", None)],
                         [True, True, True, False, False, False, False])
        self.assertEqual([kinds.is_number(v) for v in (0, 1, 10 ** 59, -1, -10 ** 59, True, False)],
                         [True, True, True, False, False, False, False])

    def test_names(self):
        for good in ("a", "z", "abcdefgh", "zz"):
            self.assertIs(kinds.is_name(good), True)
        for wrong in ("", "abcdefghi", "A", "aB", "a1", "a b", "a\n", "\na", "a-", "{", "`", "~", "_a"):
            self.assertIs(kinds.is_name(wrong), False)

    def test_houses(self):
        for good in (("a",), ("a", "b"), ("a", "ab", "b"), tuple("abcdefghi"), tuple("abcdefghijklmnopqrstuvwxyz")):
            self.assertIs(kinds.are_houses(good), True)
        for wrong in ((), ("b", "a"), ("a", "a"), ("ab", "a"), ("a", 1), (1, 2), ["a"], "ab", ("a", "B"), (("a",),)):
            self.assertIs(kinds.are_houses(wrong), False)

    def test_lots_of_two_houses(self):
        parts = ["a", "b", "c", 1, True, None, (), ("a",)]
        for size in range(4):
            for thing in itertools.product(parts, repeat=size):
                self.agrees(kinds.is_lot(("a", "b"), thing), thing in ((), ("a",), ("b",), ("a", "b")), thing)

    def test_families_of_two_houses(self):
        lots = [(), ("a",), ("b",), ("a", "b"), ("b", "a"), ("c",), "a", None]
        good = families(("a", "b"))
        self.assertEqual(len(good), 5)
        for size in range(4):
            for thing in itertools.product(lots, repeat=size):
                self.agrees(kinds.is_family(("a", "b"), thing), thing in good, thing)

    def test_nets(self):
        for net in SPECIAL:
            self.assertIs(kinds.is_net(net), True)
        for net in (LONE, LOST, TWO, WIDE, MEEK):
            for mutant in mutants(net):
                self.agrees(kinds.is_net(mutant), plain.is_net(mutant), mutant)
        rng = random.Random(3)
        for net in (LONE, TWO, WIDE, MEEK):
            for mutant in double_mutants(net, rng, 1000):
                self.agrees(kinds.is_net(mutant), plain.is_net(mutant), mutant)

    def test_edges(self):
        # The empty lot, the lot of all, one house, twenty lots.
        self.assertIs(kinds.is_lot(("a",), ()), True)
        self.assertIs(kinds.is_lot(("a", "b"), ("a", "b")), True)
        self.assertIs(kinds.is_family(("a",), ((),)), True)
        self.assertIs(kinds.is_family(("a",), ()), False)
        self.assertIs(kinds.is_family(("a",), ((), ("a",))), False)
        self.assertIs(kinds.is_family(NINE[0], NINE[1][0]), True)
        self.assertIs(kinds.is_family(NINE[0], NINE[1][0] + (("a", "b"),)), False)
        self.assertIs(kinds.is_net(((), ())), False)
        self.assertIs(kinds.is_net(list(FOUR)), False)
        self.assertIs(kinds.is_net((("a",), ((True,),))), False)

    def test_limits_are_ignored(self):
        houses = tuple("abcdefghijkl")
        family = tuple(itertools.combinations(houses, 2))
        self.assertIs(kinds.is_family(houses, family), True)
        self.assertIs(kinds.is_net((houses, (family,) * 12)), True)

    def test_houses_that_are_none(self):
        for function in (kinds.is_lot, kinds.is_family):
            self.assertEqual(outcome(function, (), ()), ("NotUsable", "houses", -1))
            self.assertEqual(outcome(function, ("b", "a"), None), ("NotUsable", "houses", -1))


if __name__ == "__main__":
    unittest.main()
