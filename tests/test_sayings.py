"""[48], [49], [51]: what can be said behind a run, runs and their faults, who takes a value, calm runs."""

import itertools
import random
import types
import unittest

from ownfears.places import once_places, used_places
from ownfears.runs import calm_run, lets_run, takers
from ownfears.sayings import can_say, possible_sayings
from tests import plainruns as runs
from tests.anyvalues import EVERY_KIND, double_mutants, mutants
from tests.sameness import outcome, same
from tests.smallsettings import (
    ABC, ABC_QUORUMS, ALONE, HEARD, LIED, MIXED, NEVER, ONE_SETTING, PAIRS, READY, SETTINGS, SHORT, SMALL_SETTING, drawn_settings,
)

FREE = (("x", False, ((("sender",),),)), ("take", True, ((("one", "x"), ("self", "x")),)))
# A stage that hears itself, and so is said by nobody unless another way of it holds.
SELFISH = (("x", True, ((("self", "x"),), (("quorum", "x"),))), ("take", False, ((("sender",), ("one", "x")), (("sender",),))))
SMALL_ONES = [setting for setting in SETTINGS if len(runs.all_sayings(setting)) <= 8] + [
    (ABC, PAIRS, FREE, "a", ("a",)), (ABC, PAIRS, FREE, "a", ("b", "c")), (ABC, PAIRS, SELFISH, "b", ("b",)),
    (ABC, PAIRS, SELFISH, "b", ("a",)), (ABC, PAIRS, SHORT, "c", ("a", "b", "c")), (ABC, PAIRS, FREE, "c", ()),
    (ABC, ABC_QUORUMS, (("take", False, ((("kernel", "take"),), (("sender",),))),), "b", ("b",)),
]


def drawn_run(rng, setting, values=("v", "w"), most=12):
    """A run of the setting with these values."""
    run = ()
    for _ in range(rng.randint(0, most)):
        some = runs.next_sayings(setting, run, values)
        if not some:
            break
        run += (rng.choice(some),)
    return run


class SayingsTest(unittest.TestCase):
    def judged(self, setting, run):
        wanted = runs.next_sayings(setting, run, ("v", "w"))
        self.assertTrue(same(list(possible_sayings(setting, run)), wanted), (setting, run))
        for saying in runs.all_sayings(setting):
            self.assertIs(can_say(setting, run, saying), saying in wanted, (setting, run, saying))

    def test_all_runs_of_small_settings(self):
        some = SMALL_ONES + [one for one in drawn_settings(201, 400, 3, 3, 4) if runs.left_houses(one)][:60]
        for setting in some:
            for said in runs.said_sets(setting, ("v", "w")):
                run = ()
                while len(run) < len(said):
                    run += tuple(one for one in runs.next_sayings(setting, run, ("v", "w")) if one in said)[:1]
                self.judged(setting, run)

    def test_drawn_runs(self):
        rng = random.Random(202)
        for setting in SETTINGS + drawn_settings(203, 150, 5, 4, 99):
            self.judged(setting, ())
            self.judged(setting, drawn_run(rng, setting, most=25))

    def test_named_edges(self):
        # The empty run; all houses have fallen; one house left; nobody has fallen.
        self.assertEqual(list(possible_sayings(HEARD, ())), [(house, "echo", "v") for house in "abc"])
        self.assertEqual(list(possible_sayings((ABC, PAIRS, READY, "a", ("a", "b", "c")), ())), [])
        self.assertEqual(list(possible_sayings((ABC, PAIRS, SHORT, "a", ("a", "b")), ())), [("c", "take", "v"), ("c", "take", "w")])
        self.assertEqual(list(possible_sayings((ABC, PAIRS, SHORT, "a", ()), ())), [(house, "take", "v") for house in "abc"])
        # A stage without any way; one that hears itself.
        self.assertEqual(list(possible_sayings((ABC, PAIRS, NEVER, "a", ("a",)), ())), [])
        self.assertIs(can_say((ABC, PAIRS, SELFISH, "a", ()), (), ("a", "x", "v")), False)
        # Once bars the other value, in this stage and for this house alone; a stage that is not once does not.
        run = (("a", "echo", "v"),)
        self.assertIs(can_say(LIED, run, ("a", "echo", "w")), False)
        self.assertIs(can_say(LIED, run, ("b", "echo", "w")), True)
        self.assertIs(can_say(LIED, run, ("a", "echo", "v")), False)
        free = (ABC, PAIRS, FREE, "a", ("a",))
        self.assertIs(can_say(free, (("b", "x", "v"),), ("b", "x", "w")), True)
        self.assertIs(can_say(free, (("b", "x", "v"), ("b", "x", "w"), ("b", "take", "w")), ("b", "take", "v")), False)
        # One holds if somebody fell, though nobody has said it; self does not.
        helped = (ABC, PAIRS, (("x", True, ()), ("take", True, ((("one", "x"),),))), "a", ("c",))
        self.assertEqual(list(possible_sayings(helped, ())), [(house, "take", value) for house in "ab" for value in "vw"])
        self.assertEqual(list(possible_sayings(helped[:4] + ((),), ())), [])

    def test_a_generator(self):
        rows = possible_sayings(LIED, ())
        self.assertIsInstance(rows, types.GeneratorType)
        self.assertEqual(next(rows), ("a", "echo", "v"))
        for args, word in [((None, ()), "setting"), ((LIED, None), "run"), ((LIED, [()]), "run"), ((LIED, (("d", "echo", "v"),)), "run")]:
            rows = possible_sayings(*args)
            self.assertIsInstance(rows, types.GeneratorType)
            self.assertTrue(same(outcome(lambda: next(rows)), ("NotUsable", word, -1)))

    def test_refused_in_order(self):
        good = ("a", "echo", "v")
        for args, word in [
            ((None, None, None), "setting"), ((HEARD[:4], (), good), "setting"), ((HEARD, None, None), "run"), ((HEARD, [], good), "run"),
            ((HEARD, (good, good), None), "run"), ((HEARD, (("a", "ready", "v"),), good), "run"), ((HEARD, (("a", "echo", "w"),), good), "run"),
            ((HEARD, (), None), "saying"), ((HEARD, (), list(good)), "saying"), ((HEARD, (), ("d", "echo", "v")), "saying"),
            ((HEARD, (), ("e", "echo", "v")), "saying"), ((HEARD, (), ("a", "x", "v")), "saying"), ((HEARD, (), ("a", "echo", "x")), "saying"),
            ((HEARD, (), ("a", "echo")), "saying"), ((HEARD, (), good + ("v",)), "saying"), ((HEARD, (), ("a", "echo", ("v",))), "saying"),
        ]:
            self.assertTrue(same(outcome(can_say, *args), ("NotUsable", word, -1)), args)

    def test_every_kind_of_value(self):
        for thing in itertools.chain(EVERY_KIND, mutants(("a", "echo", "v"))):
            found = outcome(can_say, SMALL_SETTING, (), thing)
            if runs.is_saying(SMALL_SETTING, thing):
                self.assertEqual(found[0], "returns")
            else:
                self.assertTrue(same(found, ("NotUsable", "saying", -1)), thing)


class LetsRunTest(unittest.TestCase):
    def test_named_edges(self):
        taken = calm_run(HEARD, "v")
        for setting, thing, wanted in [
            (HEARD, (), ("returns", 0)), (HEARD, taken, ("returns", 9)), (HEARD, list(taken), ("InvalidPaper", "shape", -1)), (HEARD, None, ("InvalidPaper", "shape", -1)),
            (HEARD, (None,), ("InvalidPaper", "saying", 0)), (HEARD, taken[:2] + (("d", "echo", "v"),), ("InvalidPaper", "saying", 2)),
            (HEARD, taken[:2] + taken[:1], ("InvalidPaper", "said", 2)), (HEARD, taken[2:3], ("InvalidPaper", "ways", 0)),
            (HEARD, (("a", "echo", "w"),), ("InvalidPaper", "ways", 0)), (LIED, (("a", "echo", "w"),), ("returns", 1)),
            (LIED, (("a", "echo", "v"), ("a", "echo", "w")), ("InvalidPaper", "once", 1)),
            # Two at once: once comes ahead of ways, said ahead of both, a saying that is none ahead of all, the first one ahead.
            (LIED, (("a", "echo", "v"), ("b", "echo", "v"), ("a", "take", "v"), ("a", "take", "w")), ("InvalidPaper", "once", 3)),
            (LIED, (("a", "take", "v"), None), ("InvalidPaper", "ways", 0)), (LIED, (None, ("a", "take", "v")), ("InvalidPaper", "saying", 0)),
            (LIED, (("a", "echo", "v"), ("a", "echo", "v"), ("a", "echo", "w")), ("InvalidPaper", "said", 1)),
            (LIED, (("a", "echo", "v"), ("a", "echo", "w"), ("a", "echo", "v")), ("InvalidPaper", "once", 1)),
            ((ABC, PAIRS, FREE, "a", ("a",)), (("b", "x", "v"), ("b", "x", "w"), ("b", "take", "v")), ("returns", 3)),
            ((ABC, PAIRS, FREE, "a", ("a",)), (("b", "x", "v"), ("b", "take", "v"), ("b", "x", "w"), ("b", "take", "w")), ("InvalidPaper", "once", 3)),
            ((ABC, PAIRS, FREE, "a", ("a",)), (("b", "x", "v"), ("b", "x", "v")), ("InvalidPaper", "said", 1)),
            ((ABC, PAIRS, SHORT, "a", ("a", "b", "c")), (), ("returns", 0)), ((ABC, PAIRS, SHORT, "a", ("a", "b", "c")), (("a", "take", "v"),), ("InvalidPaper", "saying", 0)),
        ]:
            self.assertTrue(same(outcome(lets_run, setting, thing), wanted), (thing, outcome(lets_run, setting, thing)))

    def test_faults_of_drawn_runs(self):
        rng = random.Random(204)
        for setting in SETTINGS[:6] + SMALL_ONES[-7:] + drawn_settings(205, 20, 4, 3, 99):
            run = drawn_run(rng, setting)
            self.assertTrue(same(lets_run(setting, run), len(run)))
            for thing in itertools.chain(EVERY_KIND, mutants(run), double_mutants(run, rng, 30)):
                error = next(runs.run_errors(setting, thing), None)
                wanted = ("returns", len(thing)) if error is None else ("InvalidPaper",) + error
                self.assertTrue(same(outcome(lets_run, setting, thing), wanted), (setting, thing))

    def test_all_short_tuples_of_sayings(self):
        for setting in SMALL_ONES[-7:]:
            for size in (1, 2, 3):
                for thing in itertools.product(runs.all_sayings(setting)[:8], repeat=size):
                    error = next(runs.run_errors(setting, thing), None)
                    wanted = ("returns", size) if error is None else ("InvalidPaper",) + error
                    self.assertTrue(same(outcome(lets_run, setting, thing), wanted), (setting, thing))

    def test_long_runs(self):
        # Six houses, four stages that are not once, both values: 48 sayings.
        houses = tuple("abcdef")
        net = (houses, (((),),) * 6)
        protocol = tuple((name, False, ((("sender",),),)) for name in ("one", "two", "three", "four"))
        setting = (net, ((houses,),) * 6, protocol, "a", ("a",))
        run = tuple(runs.all_sayings(setting))
        self.assertEqual(lets_run(setting, run), 40)
        self.assertEqual(lets_run(setting, run[::-1]), 40)
        self.assertEqual(list(possible_sayings(setting, run)), [])
        self.assertEqual(takers(setting, run, "w"), houses[1:])


class TakersTest(unittest.TestCase):
    def test_drawn_runs(self):
        rng = random.Random(206)
        for setting in SETTINGS + drawn_settings(207, 200, 4, 3, 99):
            for values in (("v", "w"), ("v",), ("w",)):
                run = drawn_run(rng, setting, values, 20)
                for value in "vw":
                    wanted = tuple(house for house in setting[0][0] if (house, setting[2][-1][0], value) in run)
                    self.assertTrue(same(takers(setting, run, value), wanted))
                    self.assertTrue(same(takers(value=value, run=run, setting=setting), wanted))

    def test_named_edges(self):
        self.assertEqual(takers(HEARD, (), "v"), ())
        both = (ABC, PAIRS, (("take", False, ((("sender",),),)),), "a", ("a",))
        run = (("c", "take", "w"), ("c", "take", "v"), ("b", "take", "w"))
        self.assertEqual([takers(both, run, "v"), takers(both, run, "w")], [("c",), ("b", "c")])
        # The last stage is the taking, whatever it is called.
        named = (ABC, PAIRS, (("take", True, ((("sender",),),)), ("x", True, ((("self", "take"),),))), "a", ("a",))
        self.assertEqual(takers(named, (("b", "take", "v"), ("c", "take", "v"), ("c", "x", "v")), "v"), ("c",))

    def test_refused_in_order(self):
        for args, word in [((None, None, None), "setting"), ((LIED, None, None), "run"), ((LIED, (), None), "value"), ((LIED, (), "x"), "value"),
                           ((LIED, (("a", "take", "v"),), "v"), "run"), ((LIED, (), ("v",)), "value"), ((LIED, (), "vw"), "value"), ((LIED, (), ""), "value")]:
            self.assertTrue(same(outcome(takers, *args), ("NotUsable", word, -1)), args)
        for args, word in [((None, None), "setting"), ((LIED, None), "value"), ((LIED, ["v"]), "value"), ((LIED, True), "value"), ((LIED, "V"), "value")]:
            self.assertTrue(same(outcome(calm_run, *args), ("NotUsable", word, -1)), args)


class CalmRunTest(unittest.TestCase):
    def test_the_least_one_again_and_again(self):
        for setting in SETTINGS + SMALL_ONES + drawn_settings(208, 300, 5, 4, 99):
            for value in "vw":
                run = ()
                while runs.next_sayings(setting, run, (value,)):
                    run += (runs.next_sayings(setting, run, (value,))[0],)
                self.assertTrue(same(calm_run(setting, value), run), setting)
                self.assertTrue(same(calm_run(value=value, setting=setting), run))

    def test_named_edges(self):
        self.assertEqual(calm_run((ABC, PAIRS, NEVER, "a", ()), "v"), ())
        self.assertEqual(calm_run((ABC, PAIRS, SHORT, "a", ("a", "b", "c")), "v"), ())
        self.assertEqual(calm_run(ONE_SETTING, "v"), (("a", "take", "v"),))
        self.assertEqual(calm_run(ONE_SETTING, "w"), ())
        self.assertEqual(calm_run((ABC, PAIRS, SHORT, "a", ("a", "b")), "w"), (("c", "take", "w"),))
        # A lesser saying comes as soon as it can: by the stage late, b comes ahead of c.
        late = (("z", True, ((("sender",),),)), ("a", True, ((("one", "z"),),)), ("take", True, ((("one", "a"),),)))
        self.assertEqual(" ".join("".join(one[:2]) for one in calm_run((ABC, PAIRS, late, "a", ()), "v")),
                         "az aa atake ba btake bz ca ctake cz")


class ConsequencesTest(unittest.TestCase):
    def test_the_sayings_with_one_value_alone_are_a_run(self):
        rng = random.Random(209)
        for setting in SETTINGS + drawn_settings(210, 200, 4, 3, 99):
            run = drawn_run(rng, setting, most=25)
            for value in "vw":
                part = tuple(one for one in run if one[2] == value)
                self.assertEqual(lets_run(setting, part), len(part))

    def test_two_runs_one_behind_the_other(self):
        rng = random.Random(211)
        joined = 0
        for setting in SETTINGS + drawn_settings(212, 400, 4, 3, 99):
            first, second = drawn_run(rng, setting, ("v",)), drawn_run(rng, setting, ("w",))
            if not set(used_places(setting, first)) & set(used_places(setting, second)):
                self.assertEqual(lets_run(setting, first + second), len(first + second))
                self.assertEqual(lets_run(setting, second + first), len(first + second))
                joined += bool(first and second)
            else:
                self.assertEqual(outcome(lets_run, setting, first + second)[:2], ("InvalidPaper", "once"))
        self.assertGreater(joined, 20)

    def test_all_places_are_once_if_all_stages_are(self):
        self.assertEqual(len(once_places(ALONE)), len(runs.all_sayings(ALONE, ("v",))))
        self.assertEqual(once_places((ABC, PAIRS, MIXED, "a", ("a",))), (("b", "late"), ("c", "late")))


if __name__ == "__main__":
    unittest.main()
