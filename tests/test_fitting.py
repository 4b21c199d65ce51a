"""[23]: whether quorums are available, agree and fit, and what they fail at; (G1), [27], [36]."""

import random
import unittest

from ownfears.covers import has_cover
from ownfears.fitchecker import lets_fit
from ownfears.fitting import agree, are_available, fits, missed_lot, torn_pair
from ownfears.plainquorums import plain_quorums
from tests import plainguilds as guilds
from tests import plainwords as plain
from tests.sameness import outcome, same
from tests.smallnets import (
    CALM, FOUR, LONE, LOST, MEEK, NAMED, NINE, OWN, SMALL, TWO, TWO_HOUSES, WIDE, all_nets, all_quorums, drawn_nets,
)
from tests.smallsettings import ABC, ABC_QUORUMS, MEEK_QUORUMS, THREES, drawn_quorums


class FittingTest(unittest.TestCase):
    def judged(self, net, quorums):
        missed = guilds.missed_lots(net, quorums)
        torn = guilds.torn_pairs(net, quorums)
        self.assertIs(are_available(net, quorums), not missed)
        self.assertIs(agree(net, quorums), not torn)
        self.assertIs(fits(net, quorums), not missed and not torn)
        self.assertTrue(same(missed_lot(net, quorums), missed[0] if missed else None))
        self.assertTrue(same(torn_pair(net, quorums), min(torn) if torn else None))
        self.assertIs(fits(net, quorums), plain.fits(net, quorums))
        self.assertIs(outcome(lets_fit, net, quorums)[0] == "returns", not missed and not torn)

    def test_all_quorums_of_small_nets(self):
        for net in SMALL:
            for quorums in all_quorums(net[0]):
                self.judged(net, quorums)

    def test_drawn_quorums(self):
        rng = random.Random(31)
        for net in drawn_nets(32, 250) + [FOUR, OWN, MEEK, WIDE, NAMED] * 20:
            self.judged(net, drawn_quorums(rng, net[0], rng.choice((1, 3, 6))))

    def test_plain_quorums(self):
        for net in [FOUR, OWN, MEEK, TWO, LONE] + drawn_nets(33, 100):
            if not any(net[0] in family for family in net[1]):
                self.assertIs(are_available(net, plain_quorums(net)), True)
                self.judged(net, plain_quorums(net))

    def test_edges(self):
        self.assertIs(fits(LONE, ((("a",),),)), True)
        # If a lot is of all houses, no quorums are available.
        self.assertEqual(missed_lot(LOST, ((("a",),),)), ("a", ("a",)))
        self.assertEqual(torn_pair(LOST, ((("a",),),)), ("a", "a", ("a",), ("a",), ("a",)))
        # Quorums of one house alone, and two of one house that share nobody.
        self.assertEqual(torn_pair(TWO, ((("a",), ("b",)), (("b",),))), ("a", "a", ("a",), ("b",), ()))
        self.assertEqual(missed_lot(TWO, ((("b",),), (("a",),))), ("a", ("b",)))
        self.assertEqual(missed_lot(MEEK, MEEK_QUORUMS[:2] + MEEK_QUORUMS[:2]), ("c", ("a",)))
        self.assertIs(fits(ABC, ABC_QUORUMS), False)
        # Nine houses, twenty lots and quorums of a house.
        self.assertIs(fits(CALM, plain_quorums(CALM)), True)
        self.assertIs(fits(NINE, plain_quorums(NINE)), True)
        self.assertEqual(missed_lot(CALM, plain_quorums(NINE)), ("a", ("a", "h")))
        self.assertIsNone(torn_pair(CALM, plain_quorums(CALM)))

    def test_a_lot_that_only_one_of_two_fears(self):
        # Both share b alone: only a reckons with it, and so they agree.
        net = (("a", "b"), ((("b",),), ((),)))
        self.assertIsNone(torn_pair(net, ((("a", "b"),), (("b",),))))
        self.assertIs(are_available(net, ((("a", "b"),), (("b",),))), False)

    def test_by_name(self):
        for function in (are_available, missed_lot, agree, torn_pair, fits):
            self.assertTrue(same(function(OWN, THREES), function(quorums=THREES, net=OWN)))

    def test_refused_in_order(self):
        for function in (are_available, missed_lot, agree, torn_pair, fits):
            for args, word in [
                ((None, None), "net"), ((OWN, None), "quorums"), ((OWN, THREES[:3]), "quorums"), ((OWN, list(THREES)), "quorums"),
                ((OWN, THREES[:3] + (((),),)), "quorums"), ((OWN, THREES[:3] + ((),)), "quorums"),
                ((OWN, THREES[:3] + ((("e",),),)), "quorums"), ((OWN, THREES[:3] + ((("a",), ("a", "b")),)), "quorums"),
                ((OWN[:1], THREES), "net"), ((LONE, THREES), "quorums"), ((THREES, OWN), "net"),
            ]:
                self.assertTrue(same(outcome(function, *args), ("NotUsable", word, -1)), (function, args))


class ConsequencesTest(unittest.TestCase):
    def test_fitting_quorums_are_there_exactly_without_a_cover(self):
        for net in SMALL:
            some = [quorums for quorums in all_quorums(net[0]) if fits(net, quorums)]
            self.assertIs(has_cover(net), not some)
            if some:
                self.assertIn(plain_quorums(net), some)
                self.assertIs(fits(net, plain_quorums(net)), True)

    def test_plain_quorums_fit_exactly_without_a_cover(self):
        for net in all_nets(("a", "b", "c"))[::3] + drawn_nets(34, 200):
            possible = not any(net[0] in family for family in net[1])
            self.assertIs(possible and fits(net, plain_quorums(net)), not has_cover(net))

    def test_no_quorums_are_available_with_a_lot_of_all(self):
        for net in TWO_HOUSES:
            for quorums in all_quorums(net[0]):
                if any(net[0] in family for family in net[1]):
                    self.assertIs(are_available(net, quorums), False)


if __name__ == "__main__":
    unittest.main()
