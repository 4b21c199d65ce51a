"""[45]: protocols and settings by form, and the checker of protocols."""

import itertools
import random
import unittest

from ownfears.netclasses import Lots, Net
from ownfears.protocolchecker import lets_protocol
from ownfears.protocolkinds import is_protocol, is_setting
from tests import plainruns as runs
from tests.anyvalues import EVERY_KIND, double_mutants, mutants
from tests.sameness import outcome, same
from tests.smallnets import OWN
from tests.smallsettings import (
    ABC, ABC_QUORUMS, HEARD, MIXED, NEVER, ONE_SETTING, READY, SENT, SETTINGS, SHORT, SMALL_SETTING, drawn_settings,
)

SPARE = [None, True, False, 1, 0, "", "sender", "one", "take", "x", "A", (), ("sender",), ("one", "take"), ("self",), [], ["sender"],
         (("sender",),), ("kernel", "x")]


def stage(name="take", once=True, ways=((("sender",),),)):
    return (name, once, ways)


# One entry of the list at a time, at each place, and two at once.
FAULTS = [
    (None, "shape", -1), ((), "shape", -1), ([stage()], "shape", -1), ("take", "shape", -1), (1, "shape", -1),
    (((),), "stage", 0), ((None,), "stage", 0), ((list(stage()),), "stage", 0), ((stage()[:2],), "stage", 0),
    ((stage() + (1,),), "stage", 0), ((stage("A"),), "stage", 0), ((stage(""),), "stage", 0), ((stage("abcdefghi"),), "stage", 0),
    ((stage(None),), "stage", 0), ((stage(once=1),), "stage", 0), ((stage(once=0),), "stage", 0), ((stage(once="once"),), "stage", 0),
    ((stage(once=None),), "stage", 0), ((stage(ways=None),), "stage", 0), ((stage(ways=[]),), "stage", 0),
    ((stage(ways="sender"),), "stage", 0), ((stage(), ()), "stage", 1), ((stage(), stage("b", 1)), "stage", 1),
    ((stage(), stage()), "name", 1), ((stage(), stage("b"), stage("take", False, ())), "name", 2),
    ((stage(), stage("b"), stage("b")), "name", 2),
    ((stage(ways=((),)),), "way", (0, 0)), ((stage(ways=(None,)),), "way", (0, 0)), ((stage(ways=([("sender",)],)),), "way", (0, 0)),
    ((stage(ways=("sender",)),), "way", (0, 0)), ((stage(ways=((("sender",),), ())),), "way", (0, 1)),
    ((stage(), stage("b", True, ((),))), "way", (1, 0)), ((stage(), stage("b", True, ((("sender",),), 5))), "way", (1, 1)),
    ((stage(ways=(("sender",),)),), "condition", (0, 0, 0)), ((stage(ways=((("sender", "take"),),)),), "condition", (0, 0, 0)),
    ((stage(ways=((("one",),),)),), "condition", (0, 0, 0)), ((stage(ways=((("one", "x"),),)),), "condition", (0, 0, 0)),
    ((stage(ways=((("two", "take"),),)),), "condition", (0, 0, 0)), ((stage(ways=(((),),)),), "condition", (0, 0, 0)),
    ((stage(ways=((["sender"],),)),), "condition", (0, 0, 0)), ((stage(ways=((("one", "take", "take"),),)),), "condition", (0, 0, 0)),
    ((stage(ways=((("one", ("take",)),),)),), "condition", (0, 0, 0)), ((stage(ways=(((("one",), "take"),),)),), "condition", (0, 0, 0)),
    ((stage(ways=((("one", "take"), None),)),), "condition", (0, 0, 1)), ((stage(ways=((None,),)),), "condition", (0, 0, 0)),
    ((stage(ways=((("sender",),), (("self", "take"), ("self", "b")))),), "condition", (0, 1, 1)),
    ((stage(), stage("b", False, ((("quorum", "take"),), (("kernel", "c"),)))), "condition", (1, 1, 0)),
    # Two at once.
    ((stage(ways=((),)), None), "stage", 1), ((stage(ways=((),)), stage()), "name", 1), ((stage(), stage(), None), "name", 1),
    ((stage(), stage(once=1)), "stage", 1), ((stage(ways=((None,), ())),), "condition", (0, 0, 0)),
    ((stage(ways=((), (None,))),), "way", (0, 0)), ((stage(ways=((None, None),)),), "condition", (0, 0, 0)),
    ((stage(ways=((("sender",), None),)), stage("b", True, ((),))), "condition", (0, 0, 1)),
    ((stage(ways=((("one", "b"),),)), stage("b", True, ((),))), "way", (1, 0)),
]


class ProtocolsTest(unittest.TestCase):
    def judged(self, thing):
        wanted = next(runs.protocol_errors(thing), None)
        found = outcome(lets_protocol, thing)
        self.assertIs(is_protocol(thing), wanted is None)
        if wanted is None:
            self.assertTrue(same(found, ("returns", len(thing))), (thing, found))
        else:
            self.assertTrue(same(found, ("InvalidPaper",) + wanted), (thing, found, wanted))

    def test_protocols(self):
        for protocol, many in [(SENT, 2), (READY, 3), (MIXED, 4), (SHORT, 1), (NEVER, 1)]:
            self.assertTrue(same(lets_protocol(protocol), many))
            self.assertIs(is_protocol(thing=protocol), True)
        self.assertEqual(lets_protocol(thing=SENT), 2)

    def test_edges(self):
        # A stage that speaks of itself, of a later one, and twice of the same; names like the words of conditions.
        self.judged((("one", False, ((("one", "one"), ("self", "sender")),)), ("sender", True, ((("kernel", "one"),) * 3,) * 4)))
        self.judged((("a", True, ()), ("b", False, ())))
        self.assertIs(is_protocol((("a", 1, ()),)), False)

    def test_each_entry(self):
        for thing, word, at in FAULTS:
            self.assertTrue(same(outcome(lets_protocol, thing), ("InvalidPaper", word, at)), (thing, outcome(lets_protocol, thing)))
            self.judged(thing)

    def test_every_kind_of_value(self):
        for thing in EVERY_KIND + [Net.of(OWN), Lots(), (Lots(),), (("a", True, (Lots(),)),), (("a", True, ((Lots(),),)),)]:
            self.judged(thing)

    def test_one_fault_and_two(self):
        rng = random.Random(71)
        for protocol in (SENT, READY, MIXED, SHORT, NEVER):
            for thing in itertools.chain(mutants(protocol, SPARE), double_mutants(protocol, rng, 500)):
                self.judged(thing)

    def test_drawn(self):
        for setting in drawn_settings(72, 200, places=99):
            self.judged(setting[2])


class SettingsTest(unittest.TestCase):
    def test_settings(self):
        for setting in SETTINGS + drawn_settings(73, 100, places=99):
            self.assertIs(is_setting(setting), True)
            self.assertIs(is_setting(thing=setting), True)

    def test_every_kind_of_value(self):
        for thing in EVERY_KIND + [Net.of(OWN), Lots()]:
            self.assertIs(is_setting(thing), False)

    def test_each_part(self):
        for k, good in enumerate(HEARD):
            for wrong in itertools.chain(EVERY_KIND, [Net.of(OWN), list(good) if isinstance(good, tuple) else [good]]):
                thing = HEARD[:k] + (wrong,) + HEARD[k + 1:]
                self.assertIs(is_setting(thing), runs.is_setting(thing))
        self.assertIs(is_setting((ABC, ABC_QUORUMS, SENT, "a", ("a", "b", "c"))), True)
        self.assertIs(is_setting((ABC, ABC_QUORUMS, SENT, "d", ())), False)
        self.assertIs(is_setting((ABC, ABC_QUORUMS, SENT, "a", ("c", "b"))), False)
        self.assertIs(is_setting((ABC, ABC_QUORUMS, SENT, ("a",), ())), False)
        self.assertIs(is_setting((ABC, HEARD[1], SENT, "a", ())), False)

    def test_one_fault_and_two(self):
        rng = random.Random(74)
        for setting in (SMALL_SETTING, ONE_SETTING):
            for thing in itertools.chain(mutants(setting), double_mutants(setting, rng, 1000)):
                self.assertIs(is_setting(thing), runs.is_setting(thing))


if __name__ == "__main__":
    unittest.main()
