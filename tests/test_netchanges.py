"""[15], [21]: nets with a change."""

import itertools
import random
import unittest

from ownfears.netchanges import kept_to, renamed, struck, with_lot, without_lot
from tests import plainwords as plain
from tests.anyvalues import EVERY_KIND
from tests.sameness import outcome, same
from tests.smallnets import FOUR, LONE, LOST, MEEK, NAMED, NINE, OWN, SMALL, TWO, WIDE, drawn_nets

NETS = SMALL + [FOUR, OWN, MEEK, WIDE, NAMED] + drawn_nets(12, 40)


def changed(net, house, family):
    """The net with another family of one house."""
    return (net[0], tuple(family if one == house else own for one, own in zip(*net)))


def struck_plainly(net, strikes):
    houses, fears = net
    left = [tuple(lot for lot in family if (house, lot) not in strikes) for house, family in zip(houses, fears)]
    return (houses, tuple(family or ((),) for family in left))


def renamed_plainly(net, pairs):
    news = dict(pairs)
    fears = {news.get(house, house): tuple(sorted(tuple(sorted(news.get(x, x) for x in lot)) for lot in family))
             for house, family in zip(*net)}
    return (tuple(sorted(fears)), tuple(fears[house] for house in sorted(fears)))


class WithLotTest(unittest.TestCase):
    def test_with_lot(self):
        for net in NETS:
            for house, lot in itertools.product(net[0], plain.subsets(net[0])):
                wanted = changed(net, house, plain.maximal(plain.lots(net, house) + (lot,)))
                self.assertTrue(same(with_lot(net, house, lot), wanted))
                self.assertTrue(plain.is_net(wanted))

    def test_without_lot(self):
        for net in NETS:
            for house in net[0]:
                family = plain.lots(net, house)
                for lot in plain.subsets(net[0]):
                    found = outcome(without_lot, net, house, lot)
                    if lot in family:
                        left = tuple(own for own in family if own != lot) or ((),)
                        self.assertTrue(same(found, ("returns", changed(net, house, left))))
                    else:
                        self.assertTrue(same(found, ("NotUsable", "lot", -1)))

    def test_a_lot_with_which_the_house_only_reckons_is_none_of_its_lots(self):
        self.assertEqual(outcome(without_lot, OWN, "a", ("c",)), ("NotUsable", "lot", -1))
        self.assertEqual(outcome(without_lot, OWN, "a", ()), ("NotUsable", "lot", -1))

    def test_edges(self):
        self.assertEqual(with_lot(LONE, "a", ("a",)), LOST)
        self.assertEqual(with_lot(LOST, "a", ()), LOST)
        self.assertEqual(with_lot(LONE, "a", ()), LONE)
        self.assertEqual(without_lot(LOST, "a", ("a",)), LONE)
        self.assertEqual(without_lot(LONE, "a", ()), LONE)
        self.assertEqual(with_lot(NINE, "a", NINE[0])[1][0], (NINE[0],))
        self.assertEqual(len(without_lot(NINE, "a", ("a", "b"))[1][0]), 19)
        self.assertEqual(with_lot(lot=("a",), house="a", net=LONE), LOST)
        self.assertEqual(without_lot(lot=("a",), house="a", net=LOST), LONE)

    def test_without_lot_takes_back_with_lot(self):
        for net in NETS:
            for house, lot in itertools.product(net[0], plain.subsets(net[0])):
                if not any(set(lot) <= set(own) or set(own) <= set(lot) for own in plain.lots(net, house)):
                    self.assertEqual(without_lot(with_lot(net, house, lot), house, lot), net)


class StruckTest(unittest.TestCase):
    def test_all_strikes_of_small_nets(self):
        for net in SMALL + [WIDE, MEEK]:
            pairs = tuple((house, lot) for house, family in zip(*net) for lot in family)
            for strikes in plain.subsets(pairs):
                self.assertTrue(same(struck(net, strikes), struck_plainly(net, strikes)))

    def test_drawn_strikes(self):
        rng = random.Random(4)
        for net in NETS + [NINE]:
            pairs = [(house, lot) for house, family in zip(*net) for lot in family]
            for _ in range(5):
                strikes = tuple(pair for pair in pairs if rng.random() < 0.5)
                found = struck(net=net, strikes=strikes)
                self.assertTrue(same(found, struck_plainly(net, strikes)))
                self.assertTrue(plain.is_net(found))

    def test_edges(self):
        self.assertEqual(struck(FOUR, ()), FOUR)
        self.assertEqual(struck(LONE, (("a", ()),)), LONE)
        self.assertEqual(struck(LOST, (("a", ("a",)),)), LONE)
        everything = tuple((house, lot) for house, family in zip(*FOUR) for lot in family)
        self.assertEqual(struck(FOUR, everything), (FOUR[0], (((),),) * 4))

    def test_refused(self):
        for strikes in [
            (("a", ("c",)),), (("e", ("b",)),), (("a", ("b",)), ("a", ("b",))), (("b", ("a",)), ("a", ("b",))),
            ("a", ("b",)), [("a", ("b",))], (["a", ("b",)],), (("a", ["b"]),), (("a", ("b",), 1),), (("a", ()),), None, ((),),
            (("a", ("b",)), None), (("a", ("b",)), 1, "x"),
        ]:
            self.assertTrue(same(outcome(struck, OWN, strikes), ("NotUsable", "strikes", -1)), strikes)


class RenamedTest(unittest.TestCase):
    def test_all_names_of_two_houses(self):
        names = ["a", "b", "aa", "z"]
        for net in [TWO, (("a", "b"), ((("a", "b"),), ((),)))] + SMALL[2:]:
            for first, second in itertools.product(names, repeat=2):
                for pairs in [(("a", first),), (("b", second),), (("a", first), ("b", second)), (("b", second), ("a", first))]:
                    news = dict(pairs)
                    if news.get("a", "a") == news.get("b", "b"):
                        self.assertTrue(same(outcome(renamed, net, *pairs), ("NotUsable", "pairs", -1)))
                    else:
                        self.assertTrue(same(renamed(net, *pairs), renamed_plainly(net, pairs)))

    def test_drawn_names(self):
        rng = random.Random(6)
        for net in NETS + [NINE]:
            old = rng.sample(net[0], rng.randint(0, len(net[0])))
            new = rng.sample(["zz", "y", "c", "b", "a", "ab", "q", "r", "s", "t"], len(old))
            pairs = tuple(zip(old, new))
            stay = [house for house in net[0] if house not in old]
            if set(stay) & set(new):
                self.assertEqual(outcome(renamed, net, *pairs), ("NotUsable", "pairs", -1))
                continue
            found = renamed(net, *pairs)
            self.assertTrue(same(found, renamed_plainly(net, pairs)))
            self.assertTrue(plain.is_net(found))
            self.assertEqual(renamed(found, *[(b, a) for a, b in pairs]), net)

    def test_all_at_once(self):
        self.assertEqual(renamed(TWO, ("a", "b"), ("b", "a")), TWO)
        turned = renamed(MEEK, ("a", "b"), ("b", "c"), ("c", "d"), ("d", "a"))
        self.assertEqual(turned, (("a", "b", "c", "d"), ((("d",),), (("c",), ("d",)), (("a", "b"),), (("b",), ("c",)))))

    def test_edges(self):
        self.assertEqual(renamed(MEEK), MEEK)
        self.assertEqual(renamed(net=MEEK), MEEK)
        self.assertEqual(renamed(MEEK, ("a", "a")), MEEK)
        self.assertEqual(renamed(LOST, ("a", "zzzzzzzz")), (("zzzzzzzz",), ((("zzzzzzzz",),),)))
        self.assertEqual(renamed(LONE, ("a", "b")), (("b",), (((),),)))

    def test_pairs_that_are_refused(self):
        good = ("b", "y")
        for wrong in EVERY_KIND + [
            ("e", "z"), ("a", "Z"), ("a", ""), ("a", "abcdefghi"), ("a", 1), (1, "z"), ["a", "z"], ("a", "z", "y"), ("a",),
            ("a", None), (("a",), "z"), (["a"], "z"), (True, "z"),
        ]:
            usable = plain.is_pair(wrong) and plain.is_house(MEEK, wrong[0]) and plain.is_name(wrong[1])
            if usable:
                continue
            self.assertTrue(same(outcome(renamed, MEEK, wrong), ("NotUsable", "pairs", 0)), wrong)
            self.assertTrue(same(outcome(renamed, MEEK, good, wrong), ("NotUsable", "pairs", 1)), wrong)
            self.assertTrue(same(outcome(renamed, MEEK, wrong, good), ("NotUsable", "pairs", 0)), wrong)
            self.assertTrue(same(outcome(renamed, MEEK, good, good, wrong), ("NotUsable", "pairs", 1)), wrong)
            self.assertTrue(same(outcome(renamed, MEEK, good, wrong, good), ("NotUsable", "pairs", 1)), wrong)
            self.assertTrue(same(outcome(renamed, MEEK, ("b", "a"), wrong), ("NotUsable", "pairs", 1)), wrong)
            self.assertTrue(same(outcome(renamed, None, wrong), ("NotUsable", "net", -1)), wrong)

    def test_a_house_that_an_earlier_pair_has(self):
        for pairs, k in [
            ((("a", "z"), ("a", "z")), 1), ((("a", "a"), ("a", "z")), 1), ((("a", "z"), ("b", "y"), ("a", "x")), 2),
            ((("a", "b"), ("b", "a"), ("b", "a")), 2), ((("a", "z"), ("z", "y")), 1),
        ]:
            self.assertTrue(same(outcome(renamed, FOUR, *pairs), ("NotUsable", "pairs", k)))

    def test_two_houses_with_one_name(self):
        for pairs in [(("a", "b"),), (("a", "z"), ("b", "z")), (("a", "b"), ("b", "b")), (("d", "a"), ("b", "d"))]:
            self.assertTrue(same(outcome(renamed, FOUR, *pairs), ("NotUsable", "pairs", -1)))


class KeptToTest(unittest.TestCase):
    def test_kept_to(self):
        for net in NETS + [NINE]:
            for houses in plain.subsets(net[0])[1:]:
                cut = tuple(plain.maximal(set(lot) & set(houses) for lot in plain.lots(net, house)) for house in houses)
                self.assertTrue(same(kept_to(net, houses), (houses, cut)))

    def test_edges(self):
        for net in NETS + [NINE]:
            self.assertEqual(kept_to(net, net[0]), net)
        self.assertEqual(kept_to(OWN, ("a",)), (("a",), (((),),)))
        self.assertEqual(kept_to(WIDE, ("c",)), (("c",), ((("c",),),)))
        self.assertEqual(kept_to(houses=("a",), net=LOST), LOST)

    def test_refused(self):
        for houses in ((), ("e",), ("a", "e"), ("b", "a"), ("a", "a"), ["a"], "a", None):
            self.assertTrue(same(outcome(kept_to, OWN, houses), ("NotUsable", "houses", -1)), houses)


if __name__ == "__main__":
    unittest.main()
