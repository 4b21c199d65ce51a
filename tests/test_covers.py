"""[34], [35], [36]: covers, their checker, and papers that tell whether there is one."""

import itertools
import random
import types
import unittest

from ownfears.coverchecker import lets_cover, lets_either
from ownfears.covers import all_covers, first_cover, fit_paper, has_cover, is_cover
from ownfears.fitchecker import lets_fit
from ownfears.netclasses import Lots, Net
from ownfears.plainquorums import plain_quorums
from tests import plainwords as plain
from tests.anyvalues import EVERY_KIND, double_mutants, mutants
from tests.sameness import outcome, same
from tests.smallnets import (
    CALM, FOUR, LONE, LOST, MEEK, NINE, NINE_HOUSES, OWN, SMALL, TWO, WIDE, all_nets, drawn_nets, families,
)

NETS = SMALL + [FOUR, OWN, MEEK, WIDE] + drawn_nets(24, 60) + drawn_nets(25, 40, 3, 5)
THREES = all_nets(("a", "b", "c"))
COVER = ("a", "b", ("c", "d"), ("a",), ("b",), ("b",))


class CoversTest(unittest.TestCase):
    def test_all_covers(self):
        for net in NETS + THREES[::40]:
            wanted = plain.all_covers(net)
            rows = all_covers(net)
            self.assertIsInstance(rows, types.GeneratorType)
            self.assertTrue(same(list(rows), wanted))
            self.assertEqual(wanted, sorted(set(wanted)))
            self.assertTrue(same(first_cover(net), wanted[0] if wanted else None))
            self.assertIs(has_cover(net), bool(wanted))

    def test_all_nets_of_three_houses(self):
        for net in THREES:
            covered = plain.has_cover(net)
            self.assertIs(has_cover(net), covered)
            cover = first_cover(net)
            self.assertTrue(plain.is_cover(net, cover) if covered else cover is None)

    def test_edges(self):
        self.assertIsNone(first_cover(LONE))
        self.assertEqual(first_cover(LOST), ("a", "a", ("a",), ("a",), ("a",), ("a",)))
        self.assertEqual(list(all_covers(LOST)), [first_cover(LOST)])
        self.assertEqual(list(all_covers(LONE)), [])
        self.assertIs(has_cover(NINE), False)
        self.assertIs(has_cover(CALM), False)
        wide = (NINE_HOUSES, NINE[1][:8] + ((NINE_HOUSES,),))
        self.assertEqual(first_cover(wide)[:2], ("a", "i"))
        # A cover needs the third and the fourth lot both: neither of them is enough alone.
        self.assertIs(has_cover((("a", "b"), ((("a",),), ((),)))), False)
        self.assertEqual(first_cover(net=TWO), ("a", "b", ("b",), ("a",), ("b",), ("a",)))
        self.assertEqual(list(all_covers(net=TWO))[1:], [("b", "a", ("a",), ("b",), ("a",), ("b",))])
        self.assertIs(has_cover(net=TWO), True)

    def test_is_cover(self):
        for net in SMALL + [WIDE]:
            lots = plain.subsets(net[0])
            for house, other in itertools.product(net[0], repeat=2):
                for four in itertools.product(lots[:4], repeat=4):
                    thing = (house, other) + four
                    self.assertIs(is_cover(net, thing), plain.is_cover(net, thing))
        for thing in itertools.chain(EVERY_KIND, mutants(COVER), [Net.of(OWN), Lots()]):
            self.assertIs(is_cover(OWN, thing), plain.is_cover(OWN, thing))
            self.assertIs(is_cover(thing=thing, net=OWN), plain.is_cover(OWN, thing))

    def test_a_lot_of_all_houses_is_a_cover(self):
        for net in SMALL:
            for house, family in zip(*net):
                if net[0] in family:
                    self.assertIs(is_cover(net, (house, house) + (net[0],) * 4), True)


FAULTS = [
    # One entry of the list at a time, for the net OWN.
    (None, "shape", -1),
    ((), "shape", -1),
    (list(COVER), "shape", -1),
    (COVER[:5], "shape", -1),
    (COVER + (("b",),), "shape", -1),
    (("e",) + COVER[1:], "house", 0),
    ((1,) + COVER[1:], "house", 0),
    (("a", "B") + COVER[2:], "house", 1),
    (("a", ("b",)) + COVER[2:], "house", 1),
    (("a", "b", ("c",), ("a",), ("b",), ("b",)), "lot", 2),
    (("a", "b", ["c", "d"], ("a",), ("b",), ("b",)), "lot", 2),
    (("a", "b", ("c", "d"), ("c", "d"), ("b",), ("b",)), "lot", 3),
    (("a", "b", ("c", "d"), ("a",), ("a",), ("b",)), "lot", 4),
    (("a", "b", ("c", "d"), ("a",), ("b",), ()), "lot", 5),
    (("a", "b", ("c", "d"), ("a",), ("b",), None), "lot", 5),
    (("a", "b", ("b",), ("a",), ("b",), ("b",)), "left", "c"),
    (("a", "b", ("c", "d"), ("a",), ("c", "d"), ("b",)), "left", "b"),
    (("a", "b", ("c", "d"), ("a",), ("b",), ("a",)), "left", "b"),
    (("a", "b", ("c", "d"), ("b",), ("b",), ("b",)), "left", "a"),
    (("a", "b", ("b",), ("c",), ("b",), ("b",)), "left", "a"),
    # Two at once: the first one is told.
    (("e", "e") + COVER[2:], "house", 0),
    (("a", "e", ("c",), ("a",), ("b",), ("b",)), "house", 1),
    ((None, "b", ("c",), ("a",), ("b",), ("b",)), "house", 0),
    (("a", "b", ("c",), None, (), ()), "lot", 2),
    (("a", "b", ("c", "d"), None, (), ()), "lot", 3),
    (("a", "b", ("b",), ("a",), ("b",), ()), "lot", 5),
    (("e", "e"), "shape", -1),
]


class CoverCheckerTest(unittest.TestCase):
    def judged(self, net, thing):
        wanted = next(plain.cover_errors(net, thing), None)
        found = outcome(lets_cover, net, thing)
        if wanted is None:
            self.assertTrue(same(found, ("returns", (thing[0], thing[1]))))
        else:
            self.assertTrue(same(found, ("InvalidPaper",) + wanted), (thing, found, wanted))
        self.assertIs(is_cover(net, thing), wanted is None)

    def test_each_entry(self):
        self.assertEqual(lets_cover(OWN, COVER), ("a", "b"))
        self.assertEqual(lets_cover(thing=COVER, net=OWN), ("a", "b"))
        for thing, word, at in FAULTS:
            with self.subTest(thing=thing):
                self.assertTrue(same(outcome(lets_cover, OWN, thing), ("InvalidPaper", word, at)))
                self.assertTrue(same(outcome(lets_either, OWN, ("cover", thing)), ("InvalidPaper", word, at)))

    def test_every_kind_and_faulty_forms(self):
        rng = random.Random(26)
        for net in (OWN, TWO, LOST, LONE):
            for thing in EVERY_KIND + [Net.of(OWN), Lots()]:
                self.judged(net, thing)
        for thing in itertools.chain(mutants(COVER), double_mutants(COVER, rng, 1500)):
            self.judged(OWN, thing)

    def test_all_forms_of_small_nets(self):
        for net in SMALL:
            lots = plain.subsets(net[0])
            for house, other in itertools.product(net[0] + ("c",), repeat=2):
                for four in itertools.product(lots, repeat=4):
                    self.judged(net, (house, other) + four)

    def test_what_is_found_is_accepted(self):
        for net in NETS:
            for cover in all_covers(net):
                self.assertEqual(lets_cover(net, cover), cover[:2])


class EitherTest(unittest.TestCase):
    def test_papers(self):
        for net in NETS + [LONE, LOST, NINE, CALM]:
            paper = fit_paper(net)
            word = "cover" if plain.has_cover(net) else "fits"
            self.assertEqual(paper[0], word)
            self.assertEqual(lets_either(net, paper), word)
            if word == "fits":
                self.assertGreater(lets_fit(net, paper[1]), 0)
            else:
                self.assertIs(is_cover(net, paper[1]), True)
        self.assertEqual(lets_either(thing=fit_paper(net=OWN), net=OWN), "cover")

    def test_papers_of_others(self):
        # Any quorums that fit, and any cover, are papers: not only those that fit_paper returns.
        net = (("a", "b"), (((),), ((),)))
        for quorums in [((("a", "b"),), (("b",),)), ((("a",),), (("a",),)), ((("b",),), (("b",),))]:
            self.assertEqual(lets_either(net, ("fits", quorums)), "fits")
        for cover in all_covers(OWN):
            self.assertEqual(lets_either(OWN, ("cover", cover)), "cover")

    def judged(self, net, thing):
        wanted = next(plain.either_errors(net, thing), None)
        found = outcome(lets_either, net, thing)
        expected = ("returns", thing[0]) if wanted is None else ("InvalidPaper",) + wanted
        self.assertTrue(same(found, expected), (thing, found, expected))

    def test_shape(self):
        for thing in EVERY_KIND + [
            ("fits",), ("cover",), ("fits", None, None), ["fits", None], ("Fits", None), ("none", ()), (None, None), (("fits",), ()),
            (True, ()), (Net.of(OWN), ()), ("cover", COVER, ()), ["cover", COVER],
        ]:
            self.assertTrue(same(outcome(lets_either, OWN, thing), ("InvalidPaper", "shape", -1)))

    def test_the_errors_of_the_checkers(self):
        rng = random.Random(27)
        for net, paper in [(OWN, ("cover", COVER)), (MEEK, ("fits", plain_quorums(MEEK))), (LONE, ("fits", ((("a",),),)))]:
            self.judged(net, paper)
            for thing in itertools.chain(mutants(paper), double_mutants(paper, rng, 800)):
                self.judged(net, thing)
        for thing in EVERY_KIND:
            self.judged(OWN, ("fits", thing))
            self.judged(OWN, ("cover", thing))


class ConsequencesTest(unittest.TestCase):
    def test_both_houses_exchanged(self):
        for net in NETS + THREES[::25]:
            covers = list(all_covers(net))
            for house, other, first, second, third, fourth in covers:
                self.assertIn((other, house, second, first, fourth, third), covers)

    def test_no_cover_of_a_net_with_fewer_or_smaller_lots(self):
        for net in NETS:
            if has_cover(net):
                continue
            for h, family in enumerate(net[1]):
                for m, lot in enumerate(family):
                    rest = family[:m] + family[m + 1:]
                    for smaller in [()] + [lot[:k] + lot[k + 1:] for k in range(len(lot))]:
                        less = plain.maximal(rest + (smaller,))
                        self.assertFalse(has_cover((net[0], net[1][:h] + (less,) + net[1][h + 1:])))

    def test_all_families_of_two_houses_by_each_other(self):
        def lies_within(family, greater):
            return all(any(set(lot) <= set(own) for own in greater) for lot in family)
        some = families(("a", "b"))
        for fears, more in itertools.product(itertools.product(some, repeat=2), repeat=2):
            if all(map(lies_within, fears, more)) and not has_cover((("a", "b"), more)):
                self.assertFalse(has_cover((("a", "b"), fears)))

    def test_fits_exactly_without_a_cover_and_then_the_plain_ones_fit(self):
        for net in THREES[::5]:
            self.assertEqual(fit_paper(net)[0] == "fits", not has_cover(net))
            if not has_cover(net):
                self.assertGreater(lets_fit(net, plain_quorums(net)), 0)
                self.assertEqual(lets_either(net, fit_paper(net)), "fits")


if __name__ == "__main__":
    unittest.main()
