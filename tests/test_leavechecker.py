"""[57], [59], (G6): the checker of leave papers."""

import itertools
import random
import unittest

from ownfears.leavechecker import lets_leave
from ownfears.leaving import leave_paper
from tests import plainruns as runs
from tests.anyvalues import EVERY_KIND, double_mutants, mutants
from tests.sameness import outcome, same
from tests.smallsettings import ABC, ABC_QUORUMS, ALONE, BOTH, HEARD, LATE, MIXED, NEVER, PAIRS, SENT, SHORT, SMALL_SETTING, drawn_settings

# Who says x helps the taking of the others: so b is left by c if c takes by what a, fallen, tells it alone.
ONE_WAY = (("x", True, ((("sender",),),)), ("take", True, ((("quorum", "x"),), (("kernel", "take"),))))
HELPED = (ABC, PAIRS, ONE_WAY, "a", ("a",))


def v_sayings(*places):
    """The set of the sayings of v at these places, written HOUSE STAGE."""
    return tuple(sorted(tuple(place.split(" ")) + ("v",) for place in places))


class LetsLeaveTest(unittest.TestCase):
    def refused(self, setting, house, other, thing, word, at):
        found = outcome(lets_leave, setting, house, other, thing)
        self.assertTrue(same(found, ("InvalidPaper", word, at)), (thing, found))
        self.assertEqual(next(runs.leave_errors(setting, house, other, thing)), (word, at), thing)

    def accepted(self, setting, house, other, thing):
        self.assertEqual(next(runs.leave_errors(setting, house, other, thing), None), None)
        self.assertTrue(same(outcome(lets_leave, setting, house, other, thing), ("returns", thing[0])), thing)

    def test_shapes(self):
        leaf = ("closed", ())
        for thing in [
            None, (), "kept", ("kept",), ("kept", ()), ("kept", None), ("kept", ("x", ())), ("kept", ("closed", [])), ("kept", ("sure",)), ("kept", ("sure", (), ())),
            ["kept", leaf], ("Kept", leaf), ("left", leaf), ("kept", ("case", 0, leaf)), ("kept", ("case", 0, leaf, None)), ("kept", ("case", 0, leaf, ("case", 0, leaf, ("sure", 1)))),
            ("kept", ("case", 0, leaf, leaf, leaf)), ("kept", ["case", 0, leaf, leaf]), ("left", ()), ("left", (), []), ("left", [], ()), ("left", (), None), ("left", (), (), ()),
            ("kept", (), ()), ("parted", (), ()), ("kept", ("v", ())), ("kept", ("w", ())), ("kept", leaf, ()), ("case", 0, leaf, leaf), leaf, ("kept", ("case", ())),
        ]:
            self.refused(ALONE, "c", "d", thing, "shape", -1)

    def test_runs(self):
        _, run, sayings = leave_paper(ALONE, "c", "d")
        self.accepted(ALONE, "c", "d", ("left", run, sayings))
        for one, word in [((), "run"), (run[:-1], "run"), (run[::-1], "run"), (run + run[:1], "run"), ((None,), "run"), (("v",), "run"), (run[:2] + (("d", "echo", "w"),) + run[2:], "run")]:
            self.refused(ALONE, "c", "d", ("left", one, sayings), word, -1)
        # A run of other values than v, though it is a run in which the other one takes.
        silent = next(house for house in "bcd" if (house, "echo", "v") not in run)
        both = run + ((silent, "echo", "w"),)
        self.assertTrue(runs.is_run(ALONE, both))
        self.refused(ALONE, "c", "d", ("left", both, sayings), "run", -1)
        # Two at once: the run comes ahead.
        self.refused(ALONE, "c", "d", ("left", (), ()), "run", -1)

    def test_sayings_behind_a_run(self):
        _, run, sayings = leave_paper(ALONE, "c", "d")
        for some in [(), sayings[1:], sayings[:-1], sayings[::-1], sayings + sayings[-1:], (None,), sayings + (None,), tuple(sorted(sayings + (("c", "take", "v"),))),
                     tuple(sorted(sayings + (("c", "echo", "w"),))), tuple(sorted(sayings + (("a", "echo", "v"),))), sayings[:1]]:
            self.refused(ALONE, "c", "d", ("left", run, some), "sayings", -1)
        # All three echo: then c hears enough, and its taking is missing.
        every = tuple(sorted(set(sayings) | {(house, "echo", "v") for house in "bcd"}))
        self.refused(ALONE, "c", "d", ("left", run, every), "sayings", -1)
        # A set may have more than what is heard for sure.
        more = tuple(sorted(sayings + (("b", "take", "v"),))) if ("b", "take", "v") not in sayings else sayings
        self.accepted(ALONE, "c", "d", ("left", run, more))

    def test_closed_leaves(self):
        # In ALONE b, c and d echo, and two of them and a let one take.
        every = v_sayings("b echo", "c echo", "d echo", "b take", "c take", "d take")
        for sayings in [(), every, every[:3], every[::-1], (None,), tuple(one for one in every if one[1] == "echo"), every + (("d", "take", "w"),)]:
            self.refused(ALONE, "c", "d", ("kept", ("closed", sayings)), "leaf", ())
        never = (ABC, PAIRS, NEVER, "a", ("a",))
        self.accepted(never, "b", "c", ("kept", ("closed", ())))
        # Sayings that come in no run may stand there, but not the taking of the other one, not such of w.
        self.accepted(never, "b", "c", ("kept", ("closed", v_sayings("b take"))))
        self.refused(never, "b", "c", ("kept", ("closed", v_sayings("c take"))), "leaf", ())
        self.refused(never, "b", "c", ("kept", ("closed", (("b", "take", "w"),))), "leaf", ())
        self.refused(never, "b", "c", ("kept", ("closed", (("a", "take", "v"),))), "leaf", ())
        # What by the cases is not heard for sure may be missing, or be there.
        for sayings in ((), v_sayings("b take")):
            tree = ("case", ("c", "take", "v"), ("closed", v_sayings("b take")), ("sure", v_sayings("c take")))
            self.accepted((ABC, PAIRS, SHORT, "a", ("a",)), "c", "c", ("kept", tree))
            tree = ("case", ("b", "take", "v"), ("case", ("c", "take", "v"), ("closed", sayings), ("sure", v_sayings("c take"))), tree)
            self.accepted((ABC, PAIRS, SHORT, "a", ("a",)), "c", "c", ("kept", tree))
        tree = ("case", ("c", "take", "v"), ("closed", ()), ("sure", v_sayings("c take")))
        self.refused((ABC, PAIRS, SHORT, "a", ("a",)), "c", "c", ("kept", tree), "leaf", (0,))
        # What is heard for sure by the cases is not spared so.
        tree = ("case", ("b", "take", "v"), ("closed", ()), ("closed", ()))
        self.refused((ABC, PAIRS, (("x", True, ()), ("take", True, ((("sender",),),))), "b", ("a",)), "c", "b", ("kept", tree), "leaf", (0,))

    def test_sure_leaves(self):
        heard = (ABC, PAIRS, SENT, "a", ())
        self.accepted(heard, "c", "b", ("kept", ("sure", (("a", "echo", "v"), ("b", "echo", "v"), ("c", "take", "v")))))
        # The same one twice, and more than is needed.
        self.accepted(heard, "c", "b", ("kept", ("sure", (("a", "echo", "v"), ("b", "echo", "v"), ("c", "take", "v"), ("c", "take", "v")))))
        self.accepted(heard, "c", "b", ("kept", ("sure", (("c", "echo", "v"), ("b", "echo", "v"), ("b", "take", "v"), ("a", "echo", "v"), ("c", "take", "v")))))
        for sayings in [
            (), (("a", "echo", "v"), ("b", "echo", "v")), (("a", "echo", "v"), ("c", "take", "v")), (("a", "echo", "v"), ("c", "take", "v"), ("b", "echo", "v")),
            (("a", "echo", "v"), ("b", "echo", "v"), ("b", "take", "v")), (("a", "echo", "w"), ("a", "echo", "v"), ("b", "echo", "v"), ("c", "take", "v")), (None,),
            (("a", "echo", "v"), ("b", "echo", "v"), ("c", "take", "w")), (("a", "echo", "v"), ("b", "echo", "v"), ("c", "take", "v"), None), (("c", "take", "v"),),
            (("a", "echo", "v"), ("b", "echo", "v"), ("c", "take", "v"), ("b", "take", "v")),
        ]:
            self.refused(heard, "c", "b", ("kept", ("sure", sayings)), "leaf", ())
        # By the cases.
        first = ("closed", v_sayings("b echo", "c echo"))
        tree = ("case", ("b", "take", "v"), first, ("sure", (("b", "take", "v"),)))
        self.refused((ABC, PAIRS, SENT, "a", ("a",)), "b", "c", ("kept", tree), "leaf", (0,))
        tree = ("case", ("b", "take", "v"), ("sure", (("b", "take", "v"),)), first)
        self.refused((ABC, PAIRS, SENT, "a", ("a",)), "b", "c", ("kept", tree), "leaf", (0,))
        self.refused(HELPED, "b", "c", ("kept", ("sure", (("b", "x", "v"), ("b", "take", "v")))), "leaf", ())

    def test_cases(self):
        leaf = ("closed", ())
        for thing in [("b", "take"), ("b", "take", "w"), ("a", "take", "v"), ("b", "x", "v"), ["b", "take", "v"], None, (), "b", ("d", "take", "v"), ("b", "take", "v", "v")]:
            self.refused((ABC, PAIRS, SENT, "a", ("a",)), "b", "c", ("kept", ("case", thing, leaf, leaf)), "case", ())
        one = ("b", "echo", "v")
        self.refused((ABC, PAIRS, SENT, "a", ("a",)), "b", "c", ("kept", ("case", one, ("case", one, leaf, leaf), leaf)), "case", (0,))
        calm = ("closed", v_sayings("b echo", "c echo", "b take"))
        never = (ABC, PAIRS, (SENT[0], ("x", True, ()), ("take", True, ((("quorum", "x"),),))), "a", ("b",))
        good = ("closed", v_sayings("a echo", "c echo"))
        self.accepted(never, "a", "c", ("kept", ("case", ("a", "echo", "v"), good, good)))
        self.refused(never, "a", "c", ("kept", ("case", ("a", "echo", "v"), good, ("case", ("a", "echo", "v"), good, good))), "case", (1,))
        # A case that is none comes ahead of its leaves, the first tree ahead of the second one.
        self.refused(never, "a", "c", ("kept", ("case", ("a", "x", "v"), ("case", None, leaf, leaf), leaf)), "case", (0,))
        self.refused(never, "a", "c", ("kept", ("case", ("a", "x", "v"), leaf, ("case", None, leaf, leaf))), "leaf", (0,))
        self.refused(never, "a", "c", ("kept", ("case", ("a", "x", "v"), good, ("case", None, leaf, leaf))), "case", (1,))
        self.refused(never, "a", "c", ("kept", ("case", ("a", "x", "v"), good, ("case", ("c", "x", "v"), good, calm))), "leaf", (1, 1))

    def test_faults_of_papers(self):
        rng = random.Random(251)
        some = [(ALONE, "c", "d"), (LATE, "c", "d"), (BOTH, "c", "d"), (SMALL_SETTING, "a", "b"), ((ABC, PAIRS, MIXED, "c", ("c",)), "a", "b"),
                ((ABC, PAIRS, SENT, "a", ()), "c", "b"), (HELPED, "b", "c"), ((ABC, ABC_QUORUMS, SENT, "b", ("c",)), "a", "b")]
        spare = [None, True, 0, "", "a", "v", "w", "b", "kept", "case", (), ("closed", ()), ("sure", ()), ("b", "echo", "v"), ("b", "take", "v"), ("b", "take", "w"), []]
        for setting, house, other in some:
            paper = leave_paper(setting, house, other)
            things = list(mutants(paper, spare))
            for thing in itertools.chain(EVERY_KIND, rng.sample(things, min(len(things), 900)), double_mutants(paper, rng, 300)):
                error = next(runs.leave_errors(setting, house, other, thing), None)
                wanted = ("returns", thing[0]) if error is None else ("InvalidPaper",) + error
                found = outcome(lets_leave, setting, house, other, thing)
                self.assertTrue(same(found, wanted), (setting, thing, found, wanted))

    def test_no_paper_shows_what_does_not_hold(self):
        # (G6), for the papers of other houses, falls and protocols.
        rng = random.Random(252)
        settings = [one for one in drawn_settings(253, 300, 3, 2, 6) if one[4]][:60] + [(ABC, ABC_QUORUMS, SENT, "a", ("c",)), (ABC, PAIRS, SHORT, "a", ("a",))]
        some = [leave_paper(setting, house, other) for setting in settings for house, other in itertools.product(runs.left_houses(setting), repeat=2)]
        for setting in settings:
            pairs = runs.left_pairs(setting)
            for house, other in itertools.product(runs.left_houses(setting), repeat=2):
                for paper in rng.sample(some, min(40, len(some))):
                    found = outcome(lets_leave, setting, house, other, paper)
                    error = next(runs.leave_errors(setting, house, other, paper), None)
                    self.assertTrue(same(found, ("returns", paper[0]) if error is None else ("InvalidPaper",) + error))
                    if found[0] == "returns":
                        self.assertEqual(paper[0] == "left", (house, other) in pairs)

    def test_refused_in_order(self):
        paper = leave_paper(ALONE, "c", "d")
        for args, word in [
            ((None, None, None, None), "setting"), ((HEARD[:4], "a", "b", paper), "setting"), ((HEARD, None, None, None), "house"), ((HEARD, "d", "d", paper), "house"),
            ((HEARD, "e", "d", paper), "house"), ((HEARD, "a", "d", None), "other"), ((HEARD, "a", None, paper), "other"), ((BOTH, "c", ["d"], paper), "other"),
            ((BOTH, ("c",), "d", paper), "house"), ((list(ALONE), "c", "d", paper), "setting"),
        ]:
            self.assertTrue(same(outcome(lets_leave, *args), ("NotUsable", word, -1)), args)
        self.assertEqual(lets_leave(thing=paper, other="d", house="c", setting=ALONE), "left")


if __name__ == "__main__":
    unittest.main()
