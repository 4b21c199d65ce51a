"""[52]: the places that are once, and those that a run uses."""

import itertools
import random
import unittest

from ownfears.places import once_places, used_places
from ownfears.runrules import run_fault
from tests import plainruns as runs
from tests.anyvalues import EVERY_KIND, double_mutants, mutants
from tests.sameness import outcome, same
from tests.smallsettings import ABC, HEARD, LIED, MIXED, NEVER, ONE_SETTING, PAIRS, SETTINGS, SMALL_SETTING, drawn_settings

ALL = SETTINGS + drawn_settings(101, 150, places=99)


def drawn_run(rng, setting):
    """A run of the setting, with both values."""
    run = ()
    for _ in range(rng.randint(0, 10)):
        some = [one for one in runs.all_sayings(setting) if runs.is_run(setting, run + (one,))]
        if not some:
            break
        run += (rng.choice(some),)
    return run


def wanted_places(setting):
    return tuple(sorted((house, stage[0]) for house in runs.left_houses(setting) for stage in setting[2] if stage[1]))


class PlacesTest(unittest.TestCase):
    def test_once_places(self):
        for setting in ALL:
            self.assertTrue(same(once_places(setting), wanted_places(setting)))
            self.assertTrue(same(once_places(setting=setting), wanted_places(setting)))

    def test_used_places(self):
        rng = random.Random(102)
        for setting in ALL:
            for run in [()] + [drawn_run(rng, setting) for _ in range(3)]:
                wanted = tuple(one for one in wanted_places(setting) if one in [(house, stage) for house, stage, _ in run])
                self.assertTrue(same(used_places(setting, run), wanted))
                self.assertTrue(same(used_places(run=run, setting=setting), wanted))

    def test_edges(self):
        self.assertEqual(len(once_places(LIED)), 6)
        self.assertEqual(used_places(LIED, (("b", "echo", "w"),)), (("b", "echo"),))
        self.assertEqual(once_places(ONE_SETTING), (("a", "take"),))
        # No stage with once; all houses have fallen; stages in no alphabetical order.
        self.assertEqual(once_places((ABC, PAIRS, NEVER, "a", ())), ())
        self.assertEqual(once_places((ABC, PAIRS, MIXED, "a", ("a", "b", "c"))), ())
        self.assertEqual(used_places((ABC, PAIRS, MIXED, "a", ("a", "b", "c")), ()), ())
        turned = (("z", True, ()), ("b", False, ()), ("a", True, ()))
        self.assertEqual(once_places((ABC, PAIRS, turned, "a", ("b",))), (("a", "a"), ("a", "z"), ("c", "a"), ("c", "z")))
        # A place where nothing is once is used by no run, and one that is used by two values is told once.
        free = (ABC, PAIRS, (("x", False, ((("sender",),),)), ("take", True, ((("sender",),),))), "a", ("a",))
        self.assertEqual(used_places(free, (("b", "x", "v"), ("b", "x", "w"), ("c", "take", "w"))), (("c", "take"),))

    def test_no_runs(self):
        rng = random.Random(103)
        for setting in (LIED, HEARD, SMALL_SETTING, (ABC, PAIRS, MIXED, "c", ("c",))):
            for _ in range(6):
                run = drawn_run(rng, setting)
                for thing in itertools.chain(EVERY_KIND, mutants(run), double_mutants(run, rng, 100)):
                    found = outcome(used_places, setting, thing)
                    if runs.is_run(setting, thing):
                        self.assertEqual(found[0], "returns")
                    else:
                        self.assertTrue(same(found, ("NotUsable", "run", -1)), (thing, found))

    def test_what_can_be_said(self):
        # All short tuples of sayings: by ways that hold or not, said already, barred by once.
        for setting in (LIED, SMALL_SETTING, ONE_SETTING, (ABC, PAIRS, NEVER, "c", ("c",)), (ABC, PAIRS, MIXED, "c", ("c",))):
            for size in (1, 2, 3):
                some = runs.all_sayings(setting)[:9 if size == 3 else 99]
                for run in itertools.product(some, repeat=size):
                    found = outcome(used_places, setting, run)
                    self.assertEqual(found[0] == "returns", runs.is_run(setting, run), (setting, run))

    def test_the_first_fault_of_a_run(self):
        rng = random.Random(104)
        for setting in [LIED, HEARD, SMALL_SETTING, (ABC, PAIRS, MIXED, "c", ("c",))] + ALL[:40]:
            some = runs.all_sayings(setting)
            for run in [drawn_run(rng, setting) for _ in range(5)]:
                things = list(mutants(run)) + list(double_mutants(run, rng, 50))
                things += [run[:k] + (one,) + run[k:] for k in range(len(run) + 1) for one in some[::2]]
                for thing in things:
                    self.assertTrue(same(run_fault(setting, thing), next(runs.run_errors(setting, thing), None)), (setting, thing))

    def test_refused_in_order(self):
        for wrong in EVERY_KIND:
            self.assertTrue(same(outcome(once_places, wrong), ("NotUsable", "setting", -1)))
            self.assertTrue(same(outcome(used_places, wrong, ()), ("NotUsable", "setting", -1)))
            self.assertTrue(same(outcome(used_places, wrong, wrong), ("NotUsable", "setting", -1)))
        self.assertEqual(outcome(used_places, HEARD, (("d", "echo", "v"),)), ("NotUsable", "run", -1))
        self.assertEqual(outcome(used_places, LIED, (("a", "echo", "v"), ("a", "echo", "w"))), ("NotUsable", "run", -1))


if __name__ == "__main__":
    unittest.main()
