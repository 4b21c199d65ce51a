"""[25], [27]: kernels."""

import random
import unittest

from ownfears.kernels import is_kernel, kernels_of
from ownfears.plainquorums import plain_quorums
from tests import plainguilds as guilds
from tests import plainwords as plain
from tests.sameness import outcome, same
from tests.smallnets import CALM, FOUR, LONE, MEEK, NAMED, NINE, OWN, SMALL, TWO, all_quorums, drawn_nets
from tests.smallsettings import THREES, drawn_quorums


class KernelsTest(unittest.TestCase):
    def judged(self, net, quorums):
        for house in net[0]:
            wanted = guilds.kernels(net, quorums, house)
            self.assertTrue(same(kernels_of(net, quorums, house), wanted))
            for lot in plain.subsets(net[0]):
                self.assertIs(is_kernel(net, quorums, house, lot), lot in wanted)
            # [27]
            family = guilds.quorums_of(net, quorums, house)
            for lot in plain.subsets(net[0]):
                self.assertEqual(guilds.has_one_of_each(lot, family), any(set(k) <= set(lot) for k in wanted))
                self.assertEqual(any(set(q) <= set(lot) for q in family), guilds.has_one_of_each(lot, wanted))

    def test_all_quorums_of_small_nets(self):
        for net in SMALL:
            for quorums in all_quorums(net[0]):
                self.judged(net, quorums)

    def test_drawn_quorums(self):
        rng = random.Random(41)
        for net in drawn_nets(42, 120):
            self.judged(net, drawn_quorums(rng, net[0], rng.choice((1, 3, 6))))

    def test_of_the_document(self):
        quorums = plain_quorums(MEEK)
        self.assertEqual(kernels_of(MEEK, quorums, "a"), (("a",), ("b", "c"), ("d",)))
        self.assertEqual(kernels_of(MEEK, quorums, "b"), (("b",), ("c",)))
        self.assertEqual(kernels_of(FOUR, THREES, "c"), (("a", "b"), ("a", "c"), ("a", "d"), ("b", "c"), ("b", "d"), ("c", "d")))
        self.assertIs(is_kernel(FOUR, THREES, "c", ("b", "d")), True)
        self.assertIs(is_kernel(FOUR, THREES, "c", ("b",)), False)
        self.assertIs(is_kernel(FOUR, THREES, "c", ("a", "b", "d")), False)
        self.assertIs(is_kernel(FOUR, THREES, "c", ()), False)

    def test_edges(self):
        self.assertEqual(kernels_of(LONE, ((("a",),),), "a"), (("a",),))
        # Quorums of one house alone: all of them stand in the one kernel.
        self.assertEqual(kernels_of(TWO, ((("a",), ("b",)), (("b",),)), "a"), (("a", "b"),))
        self.assertEqual(kernels_of(TWO, ((("a", "b"),), (("b",),)), "a"), (("a",), ("b",)))
        # Nine houses and twenty quorums.
        self.assertTrue(same(kernels_of(CALM, plain_quorums(CALM), "e"), guilds.kernels(CALM, plain_quorums(CALM), "e")))
        self.assertEqual(kernels_of(NINE, plain_quorums(NINE), "i"), tuple((house,) for house in "abcdefghi"))
        quorums = ((("ab", "b"), ("abc",)),) * 4
        self.assertEqual(kernels_of(NAMED, quorums, "b"), (("ab", "abc"), ("abc", "b")))

    def test_by_name(self):
        self.assertEqual(kernels_of(house="a", quorums=THREES, net=OWN), kernels_of(OWN, THREES, "a"))
        self.assertIs(is_kernel(lot=("a", "b"), house="a", quorums=THREES, net=OWN), True)

    def test_refused_in_order(self):
        for args, word in [
            ((None, None, None, None), "net"), ((OWN, None, None, None), "quorums"), ((OWN, THREES, None, None), "house"),
            ((OWN, THREES, "e", ("e",)), "house"), ((OWN, THREES, "a", None), "lot"), ((OWN, THREES, "a", ("b", "a")), "lot"),
            ((OWN, THREES, "a", ("e",)), "lot"), ((OWN, THREES, ("a",), ("a",)), "house"), ((OWN, THREES, "a", ["a"]), "lot"),
            ((OWN, THREES[1:], "e", ("a",)), "quorums"),
        ]:
            self.assertTrue(same(outcome(is_kernel, *args), ("NotUsable", word, -1)), args)
            if word != "lot":
                self.assertTrue(same(outcome(kernels_of, *args[:3]), ("NotUsable", word, -1)), args)


if __name__ == "__main__":
    unittest.main()
