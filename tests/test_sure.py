"""[50], [51]: what is heard for sure, and what can be said at all."""

import itertools
import random
import unittest

from ownfears.leaving import hears_sender
from ownfears.runs import calm_run
from ownfears.sure import all_sayable, sure_sayings
from tests import plainruns as runs
from tests import plainwords as plain
from tests.anyvalues import EVERY_KIND, mutants
from tests.sameness import outcome, same
from tests.smallsettings import ABC, ABC_QUORUMS, HEARD, LATE, LIED, MIXED, NEVER, ONE_SETTING, PAIRS, READY, SENT, SETTINGS, SHORT, SMALL_SETTING, drawn_settings
from tests.test_sayings import SELFISH, drawn_run

ALL = SETTINGS + drawn_settings(321, 200, 5, 4, 99)


def with_falls(setting):
    return [setting[:4] + (fall,) for fall in plain.subsets(setting[0][0])]


def order_of(setting, said):
    """A run with these sayings, which those of a run are."""
    run = ()
    while len(run) < len(said):
        run += tuple(one for one in runs.next_sayings(setting, run) if one in said)[:1]
    return run


class SureSayingsTest(unittest.TestCase):
    def judged(self, setting, run):
        wanted = tuple(sorted(runs.sure_behind(setting, run)))
        self.assertTrue(same(sure_sayings(setting, run), wanted), (setting, run))
        return wanted

    def test_of_the_document(self):
        self.assertEqual([len(sure_sayings(HEARD, ())), sure_sayings(LIED, ()), len(all_sayable(LIED, "v")), len(all_sayable(HEARD, "w"))], [9, (), 6, 0])
        run = (("a", "echo", "v"), ("b", "echo", "v"))
        self.assertEqual(sure_sayings(LIED, run), run)

    def test_all_runs_of_small_settings(self):
        for setting in [one for one in SETTINGS if len(runs.all_sayings(one, ("v",))) <= 6] + drawn_settings(322, 300, 3, 3, 4):
            for said in runs.said_sets(setting):
                self.judged(setting, order_of(setting, said))

    def test_drawn_runs(self):
        rng = random.Random(323)
        for setting in ALL:
            for run in ((), drawn_run(rng, setting, ("v",), 20), calm_run(setting, "v")):
                self.judged(setting, run)

    def test_named_edges(self):
        # Nobody fell, or the sender; all houses; one is left.
        self.assertEqual(sure_sayings((ABC, PAIRS, SHORT, "a", ()), ()), tuple((house, "take", "v") for house in "abc"))
        self.assertEqual(sure_sayings((ABC, PAIRS, SHORT, "a", ("b",)), ()), tuple((house, "take", "v") for house in "ac"))
        self.assertEqual(sure_sayings((ABC, PAIRS, SHORT, "a", ("a",)), ()), ())
        self.assertEqual(sure_sayings((ABC, PAIRS, SHORT, "a", ("a",)), (("c", "take", "v"),)), (("c", "take", "v"),))
        self.assertEqual(sure_sayings((ABC, PAIRS, SHORT, "a", ("a", "b", "c")), ()), ())
        self.assertEqual(sure_sayings((ABC, PAIRS, SENT, "c", ("a", "b")), ()), (("c", "echo", "v"),))
        self.assertEqual(sure_sayings(ONE_SETTING, ()), (("a", "take", "v"),))
        # A stage without any way, and one that hears itself.
        self.assertEqual(sure_sayings((ABC, PAIRS, NEVER, "a", ()), ()), ())
        self.assertEqual(sure_sayings((ABC, PAIRS, SELFISH, "b", ("b",)), ()), ())
        # Who fell helps nobody any more, not by one either.
        asked = (ABC, PAIRS, (("x", True, ()), ("take", True, ((("one", "x"),),))), "a", ("c",))
        self.assertEqual(sure_sayings(asked, ()), ())
        self.assertEqual(sure_sayings(LATE, (("b", "echo", "v"),)), (("b", "echo", "v"),))

    def test_no_runs_of_v(self):
        rng = random.Random(324)
        for setting in (LIED, HEARD, SMALL_SETTING, (ABC, PAIRS, MIXED, "c", ("c",))):
            for run in (calm_run(setting, "v"), drawn_run(rng, setting), drawn_run(rng, setting, ("w",))):
                for thing in itertools.chain(EVERY_KIND, mutants(run), [run, run + run[:1], run[::-1], list(run)]):
                    good = runs.is_run(setting, thing) and all(one[2] == "v" for one in thing)
                    found = outcome(sure_sayings, setting, thing)
                    self.assertTrue(found[0] == "returns" if good else same(found, ("NotUsable", "run", -1)), (thing, found))
        self.assertTrue(same(outcome(sure_sayings, LIED, (("a", "echo", "w"),)), ("NotUsable", "run", -1)))
        self.assertTrue(same(outcome(sure_sayings, LIED, (("a", "echo", "v"), ("b", "echo", "w"))), ("NotUsable", "run", -1)))

    def test_refused_in_order(self):
        for wrong in EVERY_KIND:
            self.assertTrue(same(outcome(sure_sayings, wrong, ()), ("NotUsable", "setting", -1)))
            self.assertTrue(same(outcome(sure_sayings, wrong, wrong), ("NotUsable", "setting", -1)))
            self.assertTrue(same(outcome(all_sayable, wrong, "v"), ("NotUsable", "setting", -1)))
            self.assertTrue(same(outcome(all_sayable, wrong, wrong), ("NotUsable", "setting", -1)))
            if wrong not in ("v", "w"):
                self.assertTrue(same(outcome(all_sayable, LIED, wrong), ("NotUsable", "value", -1)), wrong)
        self.assertEqual(sure_sayings(run=(), setting=HEARD), sure_sayings(HEARD, ()))
        self.assertEqual(all_sayable(value="v", setting=HEARD), all_sayable(HEARD, "v"))


class AllSayableTest(unittest.TestCase):
    def test_all_runs_of_small_settings(self):
        for setting in [one for one in SETTINGS if len(runs.all_sayings(one, ("v",))) <= 6] + drawn_settings(325, 300, 3, 3, 5):
            for value in "vw":
                wanted = tuple(sorted(frozenset().union(*runs.said_sets(setting, (value,)))))
                self.assertTrue(same(all_sayable(setting, value), wanted), setting)

    def test_the_sayings_of_calm_run(self):
        for setting in ALL:
            for value in "vw":
                self.assertTrue(same(all_sayable(setting, value), tuple(sorted(calm_run(setting, value)))))


class ConsequencesTest(unittest.TestCase):
    def test_more_sayings_and_lesser_falls(self):
        rng = random.Random(326)
        for setting in ALL:
            run = drawn_run(rng, setting, ("v",), 20)
            for k in range(len(run)):
                self.assertTrue(set(sure_sayings(setting, run[:k])) <= set(sure_sayings(setting, run[:k + 1])))
            for one in with_falls(setting):
                if set(one[4]) <= set(setting[4]) and runs.is_run(one, run):
                    self.assertTrue(set(sure_sayings(setting, run)) <= set(sure_sayings(one, run)), (setting, one[4], run))

    def test_nobody_fell(self):
        for setting in ALL:
            empty = setting[:4] + ((),)
            self.assertTrue(same(sure_sayings(empty, ()), all_sayable(empty, "v")), setting)

    def test_who_surely_hears_the_sender(self):
        for setting in ALL + [(ABC, ABC_QUORUMS, READY, "b", ())]:
            for house in runs.left_houses(setting):
                wanted = setting[3] not in setting[4] and runs.taking(setting, house) in sure_sayings(setting, ())
                self.assertIs(hears_sender(setting, house), wanted)


if __name__ == "__main__":
    unittest.main()
