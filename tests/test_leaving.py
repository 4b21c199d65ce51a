"""[59], [57], (G4): houses that are left, houses that surely hear the sender, and leave papers."""

import itertools
import random
import unittest

from ownfears.guilds import greatest_guild
from ownfears.leavechecker import lets_leave
from ownfears.leaving import can_leave, hears_sender, leave_paper
from ownfears.plainquorums import plain_quorums
from tests import plainguilds as guilds
from tests import plainruns as runs
from tests import plainwords as plain
from tests.anyvalues import EVERY_KIND
from tests.sameness import outcome, same
from tests.smallnets import FOUR, LONE, MEEK, drawn_nets
from tests.smallsettings import (
    ABC, ABC_QUORUMS, ALONE, BOTH, HEARD, LATE, LIED, MEEK_QUORUMS, MIXED, NEVER, ONE_SETTING, PAIRS, READY, SENT, SETTINGS,
    SHORT, SMALL_SETTING, THREES, drawn_settings,
)

SMALL_ONES = [setting for setting in SETTINGS if len(runs.all_sayings(setting, ("v",))) <= 9]
SIX = (tuple("abcdef"), (tuple((house,) for house in "abcdef"),) * 6)


def with_falls(setting):
    """The setting with each of its falls."""
    return [setting[:4] + (fall,) for fall in plain.subsets(setting[0][0])]


class LeavingTest(unittest.TestCase):
    def judged(self, setting):
        """Compare with what all runs tell; the pairs of which the first is left by the second are returned."""
        houses = runs.left_houses(setting)
        pairs = runs.left_pairs(setting)
        sure = runs.sure_behind(setting, ())
        for house in houses:
            wanted = setting[3] not in setting[4] and runs.taking(setting, house) in sure
            self.assertIs(hears_sender(setting, house), wanted)
            for other in houses:
                self.assertIs(can_leave(setting, house, other), (house, other) in pairs, (setting, house, other))
                self.told(setting, house, other, (house, other) in pairs)
        return pairs

    def told(self, setting, house, other, left):
        """Check that the paper is as it should be, and tells what it should."""
        paper = leave_paper(setting, house, other)
        self.assertEqual(next(runs.leave_errors(setting, house, other, paper), None), None, (setting, house, other, paper))
        self.assertEqual(paper[0], "left" if left else "kept")
        self.assertEqual(lets_leave(setting, house, other, paper), paper[0])

    def test_of_the_document(self):
        self.assertIs(can_leave(ALONE, "c", "d"), True)
        self.assertIs(can_leave(LATE, "c", "d"), False)
        self.assertIs(hears_sender(LATE, "c"), False)
        self.assertIs(hears_sender((FOUR, THREES, READY, "a", ("b",)), "c"), True)

    def test_all_runs_of_settings(self):
        for setting in SMALL_ONES:
            for other in with_falls(setting):
                if len(runs.all_sayings(other, ("v",))) <= 9:
                    self.judged(other)

    def test_all_runs_of_drawn_settings(self):
        found = [self.judged(setting) for setting in drawn_settings(111, 1500)]
        self.assertGreater(len([pairs for pairs in found if pairs]), 60)

    def test_settings_that_need_cases(self):
        # Falls are not empty here, so that there is something to be left by.
        many = 0
        for setting in drawn_settings(112, 2500, 4, 4, 10):
            if setting[4] and runs.left_houses(setting):
                self.judged(setting)
                many += 1
        self.assertGreater(many, 500)

    def test_larger_settings(self):
        # Papers show by themselves what they tell.
        rng = random.Random(113)
        for setting in drawn_settings(114, 400, 6, 4, 99):
            houses = runs.left_houses(setting)
            if houses:
                house, other = rng.choice(houses), rng.choice(houses)
                self.told(setting, house, other, can_leave(setting, house, other))
        for fall, prot in itertools.product([(), ("b",), ("a", "b"), ("a", "b", "c")], [SENT, READY]):
            setting = (SIX, plain_quorums(SIX), prot, "a", fall)
            self.told(setting, "e", "f", can_leave(setting, "e", "f"))
        self.assertIs(can_leave((SIX, plain_quorums(SIX), READY, "a", ("a",)), "e", "f"), False)
        self.assertIs(can_leave((SIX, plain_quorums(SIX), READY, "a", ("a", "b")), "e", "f"), True)

    def test_edges(self):
        # Never by itself.
        for setting in SETTINGS + drawn_settings(115, 200, 5, 4, 99):
            for house in runs.left_houses(setting):
                self.assertIs(can_leave(setting, house, house), False)
                self.told(setting, house, house, False)
        # All but one have fallen; one house alone; a stage without any way; a protocol of one stage.
        self.assertIs(can_leave((FOUR, THREES, SENT, "a", ("a", "b", "c")), "d", "d"), False)
        self.assertEqual(leave_paper((FOUR, THREES, SENT, "a", ("a", "b", "c")), "d", "d")[0], "kept")
        self.assertIs(can_leave(ONE_SETTING, "a", "a"), False)
        self.assertIs(hears_sender(ONE_SETTING, "a"), True)
        self.assertIs(hears_sender((LONE, ((("a",),),), NEVER, "a", ()), "a"), False)
        self.assertIs(can_leave((ABC, PAIRS, NEVER, "a", ("a",)), "b", "c"), False)
        self.assertIs(can_leave((ABC, PAIRS, SHORT, "a", ("a",)), "b", "c"), True)
        self.assertIs(can_leave((ABC, PAIRS, SHORT, "a", ("c",)), "b", "a"), False)
        # A sender that has fallen is heard by nobody.
        for protocol in (SENT, READY, MIXED, SHORT):
            for house in "bc":
                self.assertIs(hears_sender((ABC, PAIRS, protocol, "a", ("a",)), house), False)

    def test_with_the_empty_fall_nobody_is_left(self):
        for setting in SETTINGS + drawn_settings(116, 200, 4, 3, 99):
            empty = setting[:4] + ((),)
            for house, other in itertools.product(empty[0][0], repeat=2):
                self.assertIs(can_leave(empty, house, other), False)

    def test_papers_are_not_large(self):
        def size(tree):
            return 1 + size(tree[2]) + size(tree[3]) if tree[0] == "case" else 1
        for setting, most in [((SIX, plain_quorums(SIX), READY, "a", ("a",)), 11), (LATE, 11), (HEARD, 11)]:
            word, tree = leave_paper(setting, "b" if setting == HEARD else "c", "c" if setting == HEARD else "d")
            self.assertEqual(word, "kept")
            self.assertLessEqual(size(tree), most, setting)
        _, run, _ = leave_paper(ALONE, "c", "d")
        self.assertEqual(len(run), 3)

    def test_by_name(self):
        self.assertIs(can_leave(other="d", house="c", setting=ALONE), True)
        self.assertEqual(leave_paper(other="d", house="c", setting=ALONE), leave_paper(ALONE, "c", "d"))
        self.assertIs(hears_sender(house="c", setting=LATE), False)

    def test_nothing_is_changed(self):
        before = repr(LATE)
        for function in (can_leave, leave_paper):
            self.assertTrue(same(function(LATE, "c", "d"), function(LATE, "c", "d")))
        self.assertEqual(repr(LATE), before)

    def test_refused_in_order(self):
        for function in (can_leave, leave_paper):
            for args, word in [
                ((None, None, None), "setting"), ((HEARD[:4], "a", "b"), "setting"), ((list(HEARD), "a", "b"), "setting"),
                ((HEARD, None, None), "house"), ((HEARD, "d", "d"), "house"), ((HEARD, "d", "a"), "house"), ((HEARD, "e", "d"), "house"),
                ((HEARD, "a", "d"), "other"), ((HEARD, "a", None), "other"), ((HEARD, "a", "e"), "other"), ((BOTH, "c", "b"), "other"),
                ((BOTH, "a", "a"), "house"), ((BOTH, ("c",), "d"), "house"), ((BOTH, "c", ["d"]), "other"),
                ((HEARD[:4] + (("e",),), "d", "d"), "setting"), ((HEARD[:4] + (HEARD[0][0],), "a", "b"), "house"),
            ]:
                self.assertTrue(same(outcome(function, *args), ("NotUsable", word, -1)), (function, args))
                if word != "other":
                    self.assertTrue(same(outcome(hears_sender, *args[:2]), ("NotUsable", word, -1)), args)

    def test_every_kind_of_value(self):
        for wrong in EVERY_KIND:
            for function in (can_leave, leave_paper):
                self.assertTrue(same(outcome(function, wrong, "a", "b"), ("NotUsable", "setting", -1)))
                for setting in (SMALL_SETTING, LIED):
                    left = runs.left_houses(setting)
                    found = outcome(function, setting, wrong, "b")
                    self.assertEqual(same(found, ("NotUsable", "house", -1)), wrong not in left)
                    self.assertEqual(same(outcome(function, setting, "a", wrong), ("NotUsable", "other", -1)), wrong not in left)
                    self.assertEqual(same(outcome(hears_sender, setting, wrong), ("NotUsable", "house", -1)), wrong not in left)


class ConsequencesTest(unittest.TestCase):
    def test_falls_within_falls(self):
        # (G4): who is left in a fall is in each that includes it; who hears in a fall does in each within it.
        settings = drawn_settings(117, 150, 4, 3, 99) + [HEARD, ALONE, SMALL_SETTING, (ABC, PAIRS, MIXED, "c", ())]
        for setting in settings:
            left, heard = {}, {}
            for one in with_falls(setting):
                houses = runs.left_houses(one)
                left[one[4]] = {pair for pair in itertools.product(houses, repeat=2) if can_leave(one, *pair)}
                heard[one[4]] = {house for house in houses if hears_sender(one, house)}
            for fall, lesser in itertools.product(left, repeat=2):
                if set(lesser) <= set(fall):
                    still = {pair for pair in left[lesser] if not set(pair) & set(fall)}
                    self.assertTrue(still <= left[fall], setting)
                    self.assertTrue(heard[fall] <= heard[lesser], setting)

    def test_the_protocols_of_the_document(self):
        # [62], for quorums that agree.
        rng = random.Random(118)
        nets = [FOUR, MEEK] + [net for net in drawn_nets(119, 300, 3, 4) if not plain.has_cover(net)][:25]
        for net in nets:
            quorums = THREES if net == FOUR else MEEK_QUORUMS if net == MEEK else plain_quorums(net)
            self.assertTrue(plain.agree(net, quorums))
            sender = rng.choice(net[0])
            for fall in plain.subsets(net[0]):
                guild = greatest_guild(net, quorums, fall)
                wise = [house for house in net[0] if guilds.state(net, fall, house) == "wise"]
                for house, other in itertools.product(guild, wise):
                    self.assertIs(can_leave((net, quorums, READY, sender, fall), house, other), False)
                if sender not in fall:
                    for house, protocol in itertools.product(guild, (SENT, READY)):
                        self.assertIs(hears_sender((net, quorums, protocol, sender, fall), house), True)

    def test_surely_heard_exactly_if_nothing_leaves_it_out(self):
        # If nobody fell, what is heard for sure is what can be said.
        for setting in drawn_settings(120, 300, 4, 3, 9):
            empty = setting[:4] + ((),)
            if len(runs.all_sayings(empty, ("v",))) <= 9:
                said = frozenset().union(*runs.said_sets(empty))
                for house in empty[0][0]:
                    self.assertIs(hears_sender(empty, house), runs.taking(empty, house) in said)


class ReferenceTest(unittest.TestCase):
    """The definition of leave papers by which the tests judge refuses what shows nothing."""

    def refused(self, paper, word, at, setting=ALONE):
        self.assertEqual(next(runs.leave_errors(setting, "c", "d", paper), None), (word, at))

    def test_papers_that_are_wrong(self):
        _, run, sayings = leave_paper(ALONE, "c", "d")
        self.refused(("left", run[:-1], sayings), "run", -1)
        self.refused(("left", run[::-1], sayings), "run", -1)
        self.refused(("left", run, sayings[1:]), "sayings", -1)
        self.refused(("left", run, tuple(sorted(sayings + (("c", "take", "v"),)))), "sayings", -1)
        self.refused(("kept", ("closed", ())), "leaf", ())
        self.refused(("kept", ("sure", ())), "leaf", ())
        self.refused(("kept", ("sure", (("c", "take", "v"),))), "leaf", ())
        self.refused(("kept", ("case", ("c", "take", "v"), ("closed", ()), ("sure", (("c", "take", "v"),)))), "leaf", (0,))
        self.refused(("kept",), "shape", -1)
        case = ("c", "take", "v")
        self.refused(("kept", ("case", case, ("case", case, ("closed", ()), ("closed", ())), ("closed", ()))), "case", (0,))

    def test_no_paper_shows_what_does_not_hold(self):
        # (G6), for the papers of other houses, falls and protocols.
        rng = random.Random(121)
        settings = drawn_settings(122, 60, 3, 2, 6) + [(ABC, ABC_QUORUMS, SENT, "a", ("c",)), (ABC, PAIRS, SHORT, "a", ("a",))]
        papers = [leave_paper(setting, house, other) for setting in settings
                  for house, other in itertools.product(runs.left_houses(setting), repeat=2)]
        for setting in settings:
            pairs = runs.left_pairs(setting)
            for house, other in itertools.product(runs.left_houses(setting), repeat=2):
                for paper in rng.sample(papers, min(40, len(papers))):
                    if next(runs.leave_errors(setting, house, other, paper), None) is None:
                        self.assertEqual(paper[0] == "left", (house, other) in pairs)


if __name__ == "__main__":
    unittest.main()
