"""[47]: stages of protocols, and the stages behind them."""

import unittest

from ownfears.protocolparts import is_once, leads_to, stage_of
from tests.anyvalues import EVERY_KIND
from tests.sameness import outcome, same
from tests.smallsettings import MIXED, NEVER, READY, SENT, SETTINGS, SHORT, drawn_settings

PROTOCOLS = [SENT, READY, MIXED, SHORT, NEVER] + [setting[2] for setting in SETTINGS + drawn_settings(81, 200, places=99)]


def reached(protocol, name):
    """The stages that are come to in one step or more, by steps as many as there are stages."""
    steps = {stage[0]: {c[1] for way in stage[2] for c in way if len(c) == 2} for stage in protocol}
    found = set(steps[name])
    for _ in protocol:
        found = found.union(*[steps[one] for one in found])
    return tuple(sorted(found))


class ProtocolPartsTest(unittest.TestCase):
    def test_each_stage(self):
        for protocol in PROTOCOLS:
            for stage in protocol:
                self.assertTrue(same(stage_of(protocol, stage[0]), stage))
                self.assertTrue(same(is_once(protocol, stage[0]), stage[1]))
                self.assertTrue(same(leads_to(protocol, stage[0]), reached(protocol, stage[0])))

    def test_of_the_document(self):
        self.assertEqual(leads_to(READY, "take"), ("echo", "ready"))
        self.assertEqual(leads_to(READY, "ready"), ("echo", "ready"))
        self.assertEqual(leads_to(READY, "echo"), ())
        self.assertIs(is_once(SENT, "take"), True)

    def test_edges(self):
        # A stage that comes back to itself at once, by another one, and not at all; ways of several conditions.
        self.assertEqual(leads_to(MIXED, "late"), ("a", "b", "late", "take"))
        self.assertEqual(leads_to(MIXED, "take"), ("a", "b", "late", "take"))
        self.assertEqual(leads_to(MIXED, "b"), ())
        self.assertIs(is_once(MIXED, "b"), False)
        circle = (("x", True, ((("one", "y"),),)), ("y", False, ((("self", "z"),),)), ("z", True, ((("kernel", "x"),),)))
        self.assertEqual([leads_to(circle, name) for name in "xyz"], [("x", "y", "z")] * 3)
        line = (("x", True, ((("quorum", "y"),),)), ("y", False, ((("self", "z"),),)), ("z", True, ((("sender",),),)))
        self.assertEqual([leads_to(line, name) for name in "xyz"], [("y", "z"), ("z",), ()])
        self.assertEqual(leads_to((("one", True, ((("one", "one"),),)),), "one"), ("one",))
        self.assertEqual(leads_to(SHORT, "take"), ())
        # "sender" is no name of a stage here.
        self.assertEqual(leads_to((("sender", True, ((("sender",),),)),), "sender"), ())

    def test_wrong_values(self):
        for function in (stage_of, is_once, leads_to):
            for wrong in EVERY_KIND:
                self.assertTrue(same(outcome(function, wrong, "take"), ("NotUsable", "protocol", -1)))
                self.assertTrue(same(outcome(function, wrong, wrong), ("NotUsable", "protocol", -1)))
                self.assertTrue(same(outcome(function, READY, wrong), ("NotUsable", "name", -1)))
            for wrong in ("late", "Take", "take ", ("take",), READY[0], READY):
                self.assertTrue(same(outcome(function, READY, wrong), ("NotUsable", "name", -1)))
            self.assertTrue(same(outcome(function, READY + READY[:1], "late"), ("NotUsable", "protocol", -1)))
            self.assertTrue(same(outcome(function, list(READY), "take"), ("NotUsable", "protocol", -1)))
            self.assertTrue(same(function(name="ready", protocol=READY), function(READY, "ready")))


if __name__ == "__main__":
    unittest.main()
