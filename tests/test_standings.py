"""[31], [32]: falls that are led."""

import itertools
import random
import unittest

from ownfears.falls import state_in
from ownfears.guilds import greatest_guild
from ownfears.netclasses import Lots, Net
from ownfears.plainquorums import plain_quorums
from ownfears.standings import Plain, Standing
from tests import plainguilds as guilds
from tests import plainwords as plain
from tests.anyvalues import EVERY_KIND
from tests.sameness import outcome, same
from tests.smallnets import CALM, FOUR, LONE, LOST, MEEK, OWN, TWO, WIDE, drawn_nets
from tests.smallsettings import ABC, ABC_QUORUMS, MEEK_QUORUMS, PAIRS, THREES, drawn_quorums

SOME = [(FOUR, THREES), (MEEK, MEEK_QUORUMS), (ABC, ABC_QUORUMS), (ABC, PAIRS), (LONE, ((("a",),),)), (OWN, THREES), (WIDE, PAIRS)]


class Derived(Standing):
    """A derived class without anything of its own."""


class DerivedPlain(Plain):
    """One that is derived from Plain."""


def greatest(net, quorums, fall):
    return tuple(sorted(set().union(*guilds.guilds(net, quorums, fall))))


class StandingTest(unittest.TestCase):
    def like(self, one, net, quorums, fall, deeds):
        """Check that the standing is as this fall and these deeds say."""
        guild = greatest(net, quorums, fall)
        self.assertTrue(same([one.net_now, one.quorums_now, one.fall_now, one.guild_now], [net, quorums, fall, guild]))
        self.assertTrue(same(one.states_now, tuple(guilds.state(net, fall, house) for house in net[0])))
        self.assertTrue(same(len(one), len(deeds)))
        self.assertTrue(same(list(one), deeds))
        for house in net[0] + ("x",):
            self.assertIs(house in one, house in guild)

    def test_of_the_document(self):
        one = Plain(FOUR)
        self.assertEqual([one.fell("a"), one.states_now, one.fell("b"), one.tried(("d",)), one.undo(), one.rose("a"), "a" in one, len(one)],
                         [("a",), ("fallen", "wise", "wise", "wise"), ("b", "c", "d"), ("a", "b", "c"), ("fell", "b"), ("a",), True, 2])

    def test_drawn_deeds(self):
        rng = random.Random(291)
        drawn = [(net, drawn_quorums(rng, net[0])) for net in drawn_nets(292, 60, 1, 4)]
        for net, quorums in SOME + drawn:
            one, fall, deeds = Standing(net, quorums), (), []
            self.like(one, net, quorums, fall, deeds)
            for _ in range(25):
                kind, house = rng.randrange(4), rng.choice(net[0] + ("x",))
                before = greatest(net, quorums, fall)
                if kind == 0:
                    wanted = ("returns", deeds[-1]) if deeds else ("NothingToUndo", 0)
                    found = outcome(one.undo)
                    if deeds:
                        word, house = deeds.pop()
                        fall = tuple(sorted(set(fall) ^ {house}))
                elif kind == 1:
                    wanted = ("returns", greatest(net, quorums, tuple(h for h in net[0] if h in fall or h == house)))
                    found = outcome(one.tried, tuple(h for h in net[0] if h in fall or h == house))
                else:
                    word = "fell" if kind == 2 else "rose"
                    good = house in net[0] and (house in fall) == (word == "rose")
                    found = outcome(one.fell if kind == 2 else one.rose, house)
                    wanted = ("NotUsable", "house", -1)
                    if good:
                        fall = tuple(sorted(set(fall) ^ {house}))
                        deeds.append((word, house))
                        after = greatest(net, quorums, fall)
                        gone = set(before) - set(after) if word == "fell" else set(after) - set(before)
                        wanted = ("returns", tuple(sorted(gone)))
                        self.assertTrue(set(after) <= set(before) if word == "fell" else set(before) <= set(after))
                self.assertTrue(same(found, wanted), (net, quorums, fall, deeds, found, wanted))
                self.like(one, net, quorums, fall, deeds)

    def test_up_to_all_houses_and_back_to_none(self):
        for net, quorums in SOME:
            one, fall, deeds = Standing(net, quorums), (), []
            for house in net[0][::-1]:
                one.fell(house)
                fall = tuple(sorted(fall + (house,)))
                deeds.append(("fell", house))
                self.like(one, net, quorums, fall, deeds)
            self.assertEqual([one.guild_now, set(one.states_now)], [(), {"fallen"}])
            for house in net[0]:
                one.rose(house)
                fall = tuple(h for h in fall if h != house)
                deeds.append(("rose", house))
                self.like(one, net, quorums, fall, deeds)
            self.assertEqual(one.guild_now, net[0])
            self.assertIs(one == Standing(net, quorums), True)
            while deeds:
                self.assertTrue(same(one.undo(), deeds.pop()))
            self.like(one, net, quorums, (), [])
            self.assertTrue(same(outcome(one.undo), ("NothingToUndo", 0)))

    def test_it_tells_what_the_functions_tell(self):
        for net, quorums in SOME + [(CALM, plain_quorums(CALM))]:
            one = Standing(net, quorums)
            for house in net[0][:3]:
                one.fell(house)
                self.assertTrue(same(one.guild_now, greatest_guild(net, quorums, one.fall_now)))
                self.assertTrue(same(one.states_now, tuple(state_in(net, one.fall_now, house) for house in net[0])))

    def test_whether_any_value_is_in_it(self):
        one = Standing(FOUR, THREES)
        for thing in EVERY_KIND + [Net.of(OWN), Lots(), one]:
            self.assertIs(thing in one, type(thing) is str and thing in ("a", "b", "c", "d"))

    def test_equal(self):
        one = Standing(FOUR, THREES)
        for other in (Standing(FOUR, THREES), Derived(FOUR, THREES), Plain(FOUR), DerivedPlain(FOUR)):
            self.assertIs(one == other, True)
            self.assertIs(other == one, True)
            self.assertIs(one != other, False)
            # The fall matters, the deeds do not.
            other.fell("a")
            self.assertIs(one == other, False)
            self.assertIs(other != one, True)
            other.rose("a")
            self.assertIs(one == other, True)
        self.assertIs(Standing(ABC, PAIRS) == Standing(ABC, ABC_QUORUMS), False)
        self.assertIs(Standing(OWN, THREES) == one, False)
        for thing in EVERY_KIND + [Net.of(FOUR), Lots(), (FOUR, THREES, ())]:
            self.assertIs(one == thing, False)
            self.assertIs(thing == one, False)

    def test_iterated_over(self):
        one = Plain(FOUR)
        for house in "dba":
            one.fell(house)
        self.assertEqual([deed for deed in one], [("fell", "d"), ("fell", "b"), ("fell", "a")])
        self.assertEqual([(x, y) for x in one for y in one], list(itertools.product(list(one), repeat=2)))

    def test_houses_refused(self):
        one = Plain(FOUR)
        one.fell("c")
        for thing in EVERY_KIND + [Net.of(OWN), Lots(), one]:
            if not (type(thing) is str and thing in ("a", "b", "d")):
                self.assertTrue(same(outcome(one.fell, thing), ("NotUsable", "house", -1)), thing)
            self.assertTrue(same(outcome(one.rose, thing), ("NotUsable", "house", -1)), thing)
            if not plain.is_lot(FOUR[0], thing):
                self.assertTrue(same(outcome(one.tried, thing), ("NotUsable", "fall", -1)), thing)
        self.assertTrue(same(outcome(one.fell, "c"), ("NotUsable", "house", -1)))
        self.assertEqual([list(one), one.fall_now], [[("fell", "c")], ("c",)])
        self.assertEqual([one.rose(house="c"), one.fell(house="a"), one.tried(fall=())], [("c",), ("a",), FOUR[0]])

    def test_made_of_wrong_values(self):
        for thing in EVERY_KIND + [Net.of(OWN)]:
            if not plain.is_net(thing):
                self.assertTrue(same(outcome(Standing, thing, THREES), ("NotUsable", "net", -1)))
                self.assertTrue(same(outcome(Standing, thing, thing), ("NotUsable", "net", -1)))
                self.assertTrue(same(outcome(Plain, thing), ("NotUsable", "net", -1)))
            self.assertTrue(same(outcome(Standing, FOUR, thing), ("NotUsable", "quorums", -1)))
        self.assertTrue(same(outcome(Plain, LOST), ("NotPossible", -1)))
        self.assertTrue(same(outcome(Plain, WIDE), ("NotPossible", -1)))
        self.assertEqual(Plain(net=TWO).quorums_now, plain_quorums(TWO))
        self.assertEqual(Standing(quorums=THREES, net=FOUR).net_now, FOUR)

    def test_it_cannot_be_assigned(self):
        one = Plain(FOUR)
        for name in ("net_now", "quorums_now", "fall_now", "guild_now", "states_now"):
            with self.assertRaises(AttributeError):
                setattr(one, name, ())


if __name__ == "__main__":
    unittest.main()
