"""[40], [41], [42], [43]: who gets on with whom, covers as lines, nets in which all fear alike."""

import itertools
import random
import unittest

from ownfears.alikenets import alike_net, common_fears
from ownfears.clashes import clashing, greatest_kept
from ownfears.covers import has_cover
from ownfears.covertexts import cover_text
from tests import plainwords as plain
from tests.anyvalues import EVERY_KIND, double_mutants, mutants
from tests.sameness import outcome, same
from tests.smallnets import CALM, FOUR, LONE, LOST, MEEK, NINE, NINE_HOUSES, OWN, SMALL, TWO, WIDE, all_nets, drawn_nets

NETS = SMALL + [FOUR, OWN, MEEK, WIDE] + drawn_nets(13, 60) + drawn_nets(14, 60, 3, 4)
THREES = all_nets(("a", "b", "c"))


def kept_plainly(net, houses):
    return (houses, tuple(plain.maximal(set(lot) & set(houses) for lot in plain.lots(net, h)) for h in houses))


class ClashesTest(unittest.TestCase):
    def test_clashing(self):
        for net in NETS:
            covers = plain.all_covers(net)
            wanted = tuple(sorted({(cover[0], cover[1]) for cover in covers if cover[0] <= cover[1]}))
            self.assertTrue(same(clashing(net), wanted))

    def test_greatest_kept(self):
        for net in NETS:
            sets = [houses for houses in plain.subsets(net[0])[1:] if not plain.has_cover(kept_plainly(net, houses))]
            self.assertTrue(same(greatest_kept(net), plain.maximal(sets)))

    def test_edges(self):
        self.assertEqual(clashing(LONE), ())
        self.assertEqual(clashing(LOST), (("a", "a"),))
        self.assertEqual(greatest_kept(LONE), (("a",),))
        self.assertEqual(greatest_kept(LOST), ())
        self.assertEqual(greatest_kept(TWO), (("a",), ("b",)))
        self.assertEqual(clashing(TWO), (("a", "b"),))
        self.assertEqual(greatest_kept(CALM), (NINE_HOUSES,))
        self.assertEqual(clashing(CALM), ())
        self.assertEqual(clashing(NINE), ())
        self.assertEqual(clashing(net=LOST), (("a", "a"),))
        self.assertEqual(greatest_kept(net=LOST), ())

    def test_sets_of_several_sizes_ascend(self):
        net = (("a", "b", "c"), ((("b",),), (("a",),), (("a", "c"),)))
        self.assertEqual(greatest_kept(net), (("a",), ("b", "c")))

    def test_greatest_kept_of_all_nets_of_three_houses(self):
        for net in THREES:
            sets = [houses for houses in plain.subsets(net[0])[1:] if not plain.has_cover(kept_plainly(net, houses))]
            self.assertEqual(greatest_kept(net), plain.maximal(sets))

    def test_a_smaller_set_can_have_a_cover_where_a_greater_one_has_none(self):
        self.assertEqual(greatest_kept(FOUR), (FOUR[0],))
        self.assertTrue(has_cover(kept_plainly(FOUR, ("a", "b"))))

    def test_consequences(self):
        for net in NETS:
            covered = plain.has_cover(net)
            self.assertEqual(clashing(net) != (), covered)
            self.assertEqual(greatest_kept(net) == (net[0],), not covered)

    def test_consequences_in_all_nets_of_three_houses(self):
        for net in THREES:
            covered = plain.has_cover(net)
            self.assertEqual(clashing(net) != (), covered)
            if not covered:
                self.assertEqual(greatest_kept(net), (net[0],))
                shared = (net[0], (common_fears(net),) * 3)
                self.assertFalse(has_cover(shared))
        for net in THREES[::9]:
            self.assertEqual(greatest_kept(net) == (net[0],), not plain.has_cover(net))


class CoverTextTest(unittest.TestCase):
    def test_texts(self):
        self.assertEqual(cover_text(("a", "b", ("c", "d"), ("a",), ("b",), ("b",))), "a b c,d a b b")
        self.assertEqual(cover_text(("b", "a", (), (), (), ())), "b a - - - -")
        self.assertEqual(cover_text(("x", "x", ("a", "b", "c"), (), ("yy",), ("x", "zzzzzzzz"))), "x x a,b,c - yy x,zzzzzzzz")
        self.assertEqual(cover_text(cover=("a", "a", ("a",), (), (), ())), "a a a - - -")

    def test_of_any_net_by_form_alone(self):
        # Nobody has to be covered, and the names may be of any houses.
        rng = random.Random(8)
        names = ["a", "b", "cc", "zzzzzzzz"]
        for _ in range(200):
            lots = [tuple(sorted(rng.sample(names, rng.randint(0, 4)))) for _ in range(4)]
            pair = [rng.choice(names) for _ in range(2)]
            wanted = " ".join(pair + [",".join(lot) or "-" for lot in lots])
            self.assertTrue(same(cover_text(tuple(pair + lots)), wanted))

    def test_refused(self):
        good = ("a", "b", ("c", "d"), ("a",), ("b",), ())

        def usable(v):
            return type(v) is tuple and len(v) == 6 and all(map(plain.is_name, v[:2])) and all(
                map(plain.is_name_set, v[2:]))
        rng = random.Random(9)
        for wrong in itertools.chain(EVERY_KIND, mutants(good), double_mutants(good, rng, 1000)):
            found = outcome(cover_text, wrong)
            if usable(wrong):
                self.assertEqual(found[0], "returns")
            else:
                self.assertTrue(same(found, ("NotUsable", "cover", -1)), wrong)


class AlikeNetsTest(unittest.TestCase):
    def test_alike_net(self):
        for houses in [("a",), ("a", "b"), ("b", "c", "x"), tuple("abcde"), NINE_HOUSES]:
            for k in range(len(houses) + 1):
                family = tuple(itertools.combinations(houses, k))
                self.assertTrue(same(alike_net(houses, k), (houses, (family,) * len(houses))))
                self.assertEqual(alike_net(k=k, houses=houses), alike_net(houses, k))

    def test_edges(self):
        self.assertEqual(alike_net(("a",), 0), LONE)
        self.assertEqual(alike_net(("a",), 1), LOST)
        self.assertEqual(alike_net(FOUR[0], 4)[1][0], (FOUR[0],))
        self.assertEqual(alike_net(FOUR[0], 1), FOUR)

    def test_refused(self):
        for k in (-1, 3, 10 ** 59, True, False, None, "1", (1,), [1], ()):
            self.assertTrue(same(outcome(alike_net, ("a", "b"), k), ("NotUsable", "k", -1)), k)
        for houses in ((), ("b", "a"), ["a"], "a", None, 1):
            self.assertTrue(same(outcome(alike_net, houses, 0), ("NotUsable", "houses", -1)), houses)
            self.assertTrue(same(outcome(alike_net, houses, -1), ("NotUsable", "houses", -1)), houses)

    def test_covers_of_alike_nets(self):
        for many in range(1, 8):
            for k in range(many + 1):
                self.assertEqual(has_cover(alike_net(tuple("abcdefghi"[:many]), k)), 3 * k >= many)

    def test_common_fears(self):
        for net in NETS + [NINE, CALM]:
            if len(net[0]) < 6:
                lots = [lot for lot in plain.subsets(net[0]) if all(plain.reckons(net, h, lot) for h in net[0])]
                self.assertTrue(same(common_fears(net), plain.maximal(lots)))
        self.assertEqual(common_fears(NINE), ((),))
        self.assertEqual(common_fears(CALM), CALM[1][0])
        self.assertEqual(common_fears(LOST), (("a",),))
        self.assertEqual(common_fears(net=LONE), ((),))

    def test_no_cover_with_the_common_fears(self):
        for net in NETS:
            if not plain.has_cover(net):
                self.assertFalse(has_cover((net[0], (common_fears(net),) * len(net[0]))))


if __name__ == "__main__":
    unittest.main()
