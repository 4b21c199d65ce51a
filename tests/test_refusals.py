"""[2], [11]: which parameter of each function is refused, in which order; by position and by name; nothing is changed."""

import copy
import itertools
import random
import types
import unittest

from ownfears import (
    alikenets, benches, benchevents, benchlogs, benchreadings, benchtexts, clashes, courses, coverchecker, covers, covertexts,
    fallchecker, falls, fitchecker, fitting, goodchecker, goodfalls, guildchecker, guilds, kernels, kinds, leastfalls, leavechecker,
    leaving, netchanges, netclasses, netparts, netreadings, nettexts, partchecker, parting, places, plainquorums, protocolchecker,
    protocolkinds, protocolparts, protocolreadings, protocoltexts, sayingreadings, sayings, sayingtexts, standings, strikechecker,
    strikes, sure,
)
from ownfears.covers import first_cover
from ownfears.runs import calm_run, lets_run, takers
from tests import plainpapers as papers
from tests import plainruns as runs
from tests import plainwords as plain
from tests.anyvalues import EVERY_KIND, double_mutants, mutants
from tests.plainbenches import is_form, is_log
from tests.sameness import outcome, same
from tests.smallnets import MEEK, NAMED, OWN
from tests.smallsettings import ABC, ABC_QUORUMS, SENT, SMALL_SETTING
from tests.test_benchlines import SMALL_LINES, SMALL_LOG

NET = netclasses.Net.of(OWN)
ALIKE = netclasses.Alike(("a", "b"), (("a",), ("b",)))
LOTS = netclasses.Lots(("a", "b"), ("c",))
COVER = first_cover(OWN)


def is_cover_by_form(v):
    return type(v) is tuple and len(v) == 6 and all(map(plain.is_name, v[:2])) and all(map(plain.is_name_set, v[2:]))


# For each parameter: its name, a good value, whether a value is as its definition says.
NET_P = ("net", OWN, plain.is_net)
HOUSE_P = ("house", "b", lambda v: plain.is_house(OWN, v))
OTHER_P = ("other", "c", lambda v: plain.is_house(OWN, v))
LOT_P = ("lot", ("b", "c"), lambda v: plain.is_lot(OWN[0], v))
FALL_P = ("fall", ("c",), lambda v: plain.is_lot(OWN[0], v))
HOUSES_P = ("houses", ("a", "c"), plain.are_houses)
THING_P = ("thing", ("b",), lambda v: True)

# The same for a smaller net, its quorums, and settings of it in which house c has fallen.
ABC_P = ("net", ABC, plain.is_net)
QUORUMS_P = ("quorums", ABC_QUORUMS, lambda v: plain.are_quorums(ABC, v))
ABC_FALL_P = ("fall", ("b",), lambda v: plain.is_lot(ABC[0], v))
ABC_LOT_P = ("lot", ("a", "b"), lambda v: plain.is_lot(ABC[0], v))
ABC_HOUSE_P = ("house", "c", lambda v: plain.is_house(ABC, v))
PROTOCOL_P = ("protocol", SENT, runs.is_protocol)
NAME_P = ("name", "take", lambda v: type(v) is str and v in ("echo", "take"))
SETTING_P = ("setting", SMALL_SETTING, runs.is_setting)
LEFT_P = ("house", "a", lambda v: type(v) is str and v in ("a", "b"))
LEAVER_P = ("other", "b", lambda v: type(v) is str and v in ("a", "b"))
RUN_P = ("run", (("a", "echo", "v"), ("b", "echo", "v")), lambda v: runs.is_run(SMALL_SETTING, v))
SAYING_P = ("saying", ("b", "take", "v"), lambda v: runs.is_saying(SMALL_SETTING, v))
VALUE_P = ("value", "v", runs.is_value)
SENDER_P = ("sender", "a", lambda v: plain.is_house(ABC, v))
PARTS_P = [ABC_P, QUORUMS_P, PROTOCOL_P, SENDER_P]
KIND_P = ("kind", "leaving", lambda v: type(v) is str and v in ("parting", "leaving"))
ABC_OTHER_P = ("other", "a", lambda v: plain.is_house(ABC, v))
PRICES_P = ("prices", ((2, 1), (1,), (3,)), lambda v: papers.are_prices(ABC, v))


def is_free_saying(v):
    return type(v) is tuple and len(v) == 3 and plain.is_name(v[0]) and plain.is_name(v[1]) and runs.is_value(v[2])

FUNCTIONS = [
    (kinds.is_lot, [HOUSES_P, THING_P]),
    (kinds.is_family, [HOUSES_P, THING_P]),
    (netparts.lots_of, [NET_P, HOUSE_P]),
    (netparts.reckons, [NET_P, HOUSE_P, LOT_P]),
    (netparts.both_reckon, [NET_P, HOUSE_P, OTHER_P]),
    (netparts.feared_by, [NET_P, LOT_P]),
    (netparts.rest_of, [NET_P, LOT_P]),
    (netchanges.with_lot, [NET_P, HOUSE_P, LOT_P]),
    (netchanges.without_lot, [NET_P, HOUSE_P, ("lot", ("a",), lambda v: plain.is_own_lot(OWN, ("b", v)))]),
    (netchanges.struck, [NET_P, ("strikes", (("a", ("b",)), ("b", ("a",))), lambda v: plain.are_strikes(OWN, v))]),
    (netchanges.renamed, [NET_P]),
    (netchanges.kept_to, [NET_P, ("houses", ("a", "d"), lambda v: plain.are_houses(v) and plain.is_lot(OWN[0], v))]),
    (clashes.clashing, [NET_P]),
    (clashes.greatest_kept, [NET_P]),
    (covertexts.cover_text, [("cover", COVER, is_cover_by_form)]),
    (alikenets.alike_net, [HOUSES_P, ("k", 1, lambda v: plain.is_number(v) and v <= 2)]),
    (alikenets.common_fears, [NET_P]),
    (nettexts.lot_text, [("lot", ("x", "yy"), plain.is_name_set)]),
    (nettexts.net_text, [NET_P]),
    (plainquorums.plain_quorums, [NET_P]),
    (plainquorums.are_quorums, [NET_P, THING_P]),
    (fitchecker.lets_fit, [NET_P, ("thing", plainquorums.plain_quorums(MEEK), lambda v: True)]),
    (falls.state_in, [NET_P, FALL_P, HOUSE_P]),
    (falls.wise_in, [NET_P, FALL_P]),
    (falls.naive_in, [NET_P, FALL_P]),
    (falls.all_falls, [NET_P]),
    (covers.has_cover, [NET_P]),
    (covers.first_cover, [NET_P]),
    (covers.all_covers, [NET_P]),
    (covers.is_cover, [NET_P, ("thing", COVER, lambda v: True)]),
    (covers.fit_paper, [NET_P]),
    (coverchecker.lets_cover, [NET_P, ("thing", COVER, lambda v: True)]),
    (coverchecker.lets_either, [NET_P, ("thing", ("cover", COVER), lambda v: True)]),
    (netclasses.Alike, [HOUSES_P, ("family", (("a",), ("c",)), lambda v: plain.is_family(("a", "c"), v))]),
    (netclasses.Shut, [HOUSES_P]),
    (NET, [HOUSE_P, OTHER_P]),
    (LOTS.covers, [HOUSES_P]),
    (fitting.are_available, [ABC_P, QUORUMS_P]),
    (fitting.missed_lot, [ABC_P, QUORUMS_P]),
    (fitting.agree, [ABC_P, QUORUMS_P]),
    (fitting.torn_pair, [ABC_P, QUORUMS_P]),
    (fitting.fits, [ABC_P, QUORUMS_P]),
    (kernels.kernels_of, [ABC_P, QUORUMS_P, ABC_HOUSE_P]),
    (kernels.is_kernel, [ABC_P, QUORUMS_P, ABC_HOUSE_P, ABC_LOT_P]),
    (guilds.greatest_guild, [ABC_P, QUORUMS_P, ABC_FALL_P]),
    (guilds.is_guild, [ABC_P, QUORUMS_P, ABC_FALL_P, THING_P]),
    (guilds.guild_paper, [ABC_P, QUORUMS_P, ABC_FALL_P]),
    (guildchecker.lets_guild, [ABC_P, QUORUMS_P, ABC_FALL_P, (
        "thing", guilds.guild_paper(ABC, ABC_QUORUMS, ("b",)), lambda v: True)]),
    (goodfalls.good_falls, [ABC_P, QUORUMS_P, ABC_HOUSE_P]),
    (goodfalls.good_paper, [ABC_P, QUORUMS_P, ABC_HOUSE_P]),
    (goodchecker.lets_good, [ABC_P, QUORUMS_P, ABC_HOUSE_P, (
        "thing", goodfalls.good_paper(ABC, ABC_QUORUMS, "c"), lambda v: True)]),
    (protocolkinds.is_protocol, [THING_P]),
    (protocolkinds.is_setting, [THING_P]),
    (protocolchecker.lets_protocol, [("thing", SENT, lambda v: True)]),
    (protocoltexts.protocol_text, [PROTOCOL_P]),
    (protocolparts.stage_of, [PROTOCOL_P, NAME_P]),
    (protocolparts.is_once, [PROTOCOL_P, NAME_P]),
    (protocolparts.leads_to, [PROTOCOL_P, NAME_P]),
    (places.once_places, [SETTING_P]),
    (places.used_places, [SETTING_P, RUN_P]),
    (leaving.can_leave, [SETTING_P, LEFT_P, LEAVER_P]),
    (leaving.leave_paper, [SETTING_P, LEFT_P, LEAVER_P]),
    (leaving.hears_sender, [SETTING_P, LEFT_P]),
    (benchevents.is_event, [ABC_P, PROTOCOL_P, THING_P]),
    (benchtexts.event_line, [("event", ("say", "a", "echo", "v"), is_form)]),
    (benchtexts.log_lines, [("log", SMALL_LOG, is_log)]),
    (sayings.can_say, [SETTING_P, RUN_P, SAYING_P]),
    (sayings.possible_sayings, [SETTING_P, RUN_P]),
    (lets_run, [SETTING_P, ("thing", (("a", "echo", "v"),), lambda v: True)]),
    (takers, [SETTING_P, RUN_P, VALUE_P]),
    (calm_run, [SETTING_P, VALUE_P]),
    (sure.sure_sayings, [SETTING_P, (
        "run", (("a", "echo", "v"),), lambda v: runs.is_run(SMALL_SETTING, v) and all(one[2] == "v" for one in v))]),
    (sure.all_sayable, [SETTING_P, VALUE_P]),
    (sayingtexts.saying_text, [("saying", ("x", "y", "w"), is_free_saying)]),
    (sayingtexts.run_text, [("run", (("x", "y", "w"),) * 2, lambda v: type(v) is tuple and all(map(is_free_saying, v)))]),
    (parting.can_part, [SETTING_P, LEFT_P, LEAVER_P]),
    (parting.part_paper, [SETTING_P, LEFT_P, LEAVER_P]),
    (partchecker.lets_part, [SETTING_P, LEFT_P, LEAVER_P, (
        "thing", parting.part_paper(SMALL_SETTING, "a", "b"), lambda v: True)]),
    (leavechecker.lets_leave, [SETTING_P, LEFT_P, LEAVER_P, (
        "thing", leaving.leave_paper(SMALL_SETTING, "a", "b"), lambda v: True)]),
    (leastfalls.parting_falls, PARTS_P + [ABC_HOUSE_P, ABC_OTHER_P]),
    (leastfalls.leaving_falls, PARTS_P + [ABC_HOUSE_P, ABC_OTHER_P]),
    (leastfalls.hearing_falls, PARTS_P + [ABC_HOUSE_P]),
    (leastfalls.safe_pairs, PARTS_P),
    (leastfalls.falls_paper, PARTS_P + [KIND_P, ABC_HOUSE_P, ABC_OTHER_P]),
    (fallchecker.lets_falls, PARTS_P + [(
        "thing", leastfalls.falls_paper(ABC, ABC_QUORUMS, SENT, "a", "parting", "b", "c"), lambda v: True)]),
    (strikes.least_price, [ABC_P, PRICES_P]),
    (strikes.least_strikes, [ABC_P, PRICES_P]),
    (strikes.strike_paper, [ABC_P, PRICES_P]),
    (strikechecker.lets_strikes, [ABC_P, PRICES_P, ("thing", strikes.strike_paper(ABC, PRICES_P[1]), lambda v: True)]),
    (standings.Standing, [ABC_P, QUORUMS_P]),
    (standings.Plain, [ABC_P]),
    (courses.Course, PARTS_P + [ABC_FALL_P]),
    (courses.Warned, PARTS_P + [ABC_FALL_P]),
    (benches.Bench, PARTS_P),
    (benchlogs.is_log, [THING_P]),
    (benchlogs.replayed, [("log", SMALL_LOG[:2], is_log)]),
]

LEFT_OF_SIGNS = [
    (lambda house: NET[house], HOUSE_P),
    (lambda house: ALIKE[house], ("house", "b", lambda v: plain.is_house((("a", "b"), ()), v))),
    (lambda pair: NET + pair, ("pair", ("a", ("b", "c")), lambda v: plain.is_pair(v) and plain.is_house(OWN, v[0])
                               and plain.is_lot(OWN[0], v[1]))),
    (lambda pair: NET - pair, ("pair", ("a", ("b",)), lambda v: plain.is_own_lot(OWN, v))),
    (lambda houses: NET & houses, ("houses", ("a", "d"), lambda v: plain.are_houses(v) and plain.is_lot(OWN[0], v))),
    (lambda house: LOTS - house, ("house", "a", plain.is_name)),
    (lambda other: LOTS | other, ("other", LOTS, lambda v: isinstance(v, netclasses.Lots))),
    (lambda other: LOTS & other, ("other", LOTS, lambda v: isinstance(v, netclasses.Lots))),
]


def settled(call, *args, **more):
    """The outcome of a call, a generator gone through."""
    def through():
        found = call(*args, **more)
        return list(found) if isinstance(found, types.GeneratorType) else found
    return outcome(through)


def wrongs(good, usable):
    """Values of every kind, and faulty forms of a good one, that are not usable."""
    return [v for v in itertools.chain(EVERY_KIND, [NET, LOTS], mutants(good)) if not usable(v)]


class RefusalsTest(unittest.TestCase):
    def test_good_values_by_position_and_by_name(self):
        for function, params in FUNCTIONS:
            with self.subTest(function=function):
                values = [good for _, good, _ in params]
                kept = copy.deepcopy(values)
                placed = settled(function, *values)
                self.assertEqual(placed[0], "returns" if function is not fitchecker.lets_fit else "InvalidPaper")
                named = settled(function, **{word: good for word, good, _ in params})
                turned = settled(function, **{word: good for word, good, _ in reversed(params)})
                self.assertTrue(same(placed, named))
                self.assertTrue(same(placed, turned))
                self.assertTrue(same(values, kept))

    def test_one_wrong_value(self):
        for function, params in FUNCTIONS:
            values = [good for _, good, _ in params]
            for k, (word, good, usable) in enumerate(params):
                for wrong in wrongs(good, usable):
                    with self.subTest(function=function, word=word, wrong=wrong):
                        kept = copy.deepcopy(wrong)
                        found = settled(function, *values[:k], wrong, *values[k + 1:])
                        self.assertTrue(same(found, ("NotUsable", word, -1)), found)
                        self.assertTrue(wrong is kept or repr(wrong) == repr(kept) or wrong in (NET, LOTS))

    def test_several_wrong_values_at_once(self):
        for function, params in FUNCTIONS:
            some = [[v for v in wrongs(good, usable)][::7] for _, good, usable in params]
            values = [good for _, good, _ in params]
            for k, h in itertools.combinations(range(len(params)), 2):
                for wrong, later in itertools.product(some[k], some[h]):
                    given = list(values)
                    given[k], given[h] = wrong, later
                    found = settled(function, *given)
                    self.assertTrue(same(found, ("NotUsable", params[k][0], -1)), (function, given, found))
            for wrong in some[0]:
                found = settled(function, *[wrong] * len(params))
                self.assertTrue(same(found, ("NotUsable", params[0][0], -1)), (function, wrong, found))

    def test_two_faults_in_one_value(self):
        rng = random.Random(5)
        for function, params in FUNCTIONS:
            values = [good for _, good, _ in params]
            for k, (word, good, usable) in enumerate(params):
                for wrong in double_mutants(good, rng, 300):
                    found = settled(function, *values[:k], wrong, *values[k + 1:])
                    if not usable(wrong):
                        self.assertTrue(same(found, ("NotUsable", word, -1)), (function, wrong, found))

    def test_operators(self):
        for sign, (word, good, usable) in LEFT_OF_SIGNS:
            self.assertEqual(outcome(sign, good)[0], "returns")
            for wrong in wrongs(good, usable):
                with self.subTest(word=word, wrong=wrong):
                    self.assertTrue(same(outcome(sign, wrong), ("NotUsable", word, -1)))

    def test_generators_raise_when_the_first_one_is_asked_for(self):
        rows = sayings.possible_sayings(None, ())
        self.assertEqual(outcome(lambda: next(rows)), ("NotUsable", "setting", -1))
        for function in (falls.all_falls, covers.all_covers):
            for wrong in (None, 1, [], OWN[0], NET):
                rows = function(wrong)
                self.assertIsInstance(rows, types.GeneratorType)
                self.assertEqual(outcome(lambda: next(rows)), ("NotUsable", "net", -1))

    def test_things_may_be_anything(self):
        asking = [plainquorums.are_quorums, covers.is_cover]
        judging = [fitchecker.lets_fit, coverchecker.lets_cover, coverchecker.lets_either]
        more = [lambda net, thing: guildchecker.lets_guild(ABC, ABC_QUORUMS, ("b",), thing),
                lambda net, thing: goodchecker.lets_good(ABC, ABC_QUORUMS, "a", thing),
                lambda net, thing: protocolchecker.lets_protocol(thing),
                lambda net, thing: partchecker.lets_part(SMALL_SETTING, "a", "b", thing),
                lambda net, thing: leavechecker.lets_leave(SMALL_SETTING, "a", "b", thing),
                lambda net, thing: fallchecker.lets_falls(ABC, ABC_QUORUMS, SENT, "a", thing),
                lambda net, thing: strikechecker.lets_strikes(ABC, PRICES_P[1], thing)]
        for thing in itertools.chain(EVERY_KIND, [NET, LOTS, (NET, NET)]):
            for function in asking:
                self.assertIs(function(OWN, thing), False)
            for function in judging + more:
                self.assertEqual(settled(function, OWN, thing)[0], "InvalidPaper")

    def test_texts_that_are_no_strings(self):
        for function in (netreadings.lot_read, netreadings.net_read, netclasses.Net.read, protocolreadings.protocol_read,
                         benchreadings.read_event, sayingreadings.saying_read, sayingreadings.run_read):
            for wrong in EVERY_KIND:
                if not isinstance(wrong, str):
                    self.assertTrue(same(outcome(function, wrong), ("NotUsable", "text", -1)), (function, wrong))
                    self.assertTrue(same(outcome(function, text=wrong), ("NotUsable", "text", -1)))

    def test_lines_that_are_no_list_of_strings(self):
        self.assertTrue(same(benchreadings.read_log(lines=list(SMALL_LINES)), SMALL_LOG))
        for wrong in EVERY_KIND + [tuple(SMALL_LINES), "\n".join(SMALL_LINES), SMALL_LINES + ["\n"], [SMALL_LINES]]:
            if type(wrong) is not list or not all(type(line) is str and "\n" not in line for line in wrong):
                self.assertTrue(same(outcome(benchreadings.read_log, wrong), ("NotUsable", "lines", -1)), wrong)
                self.assertTrue(same(outcome(benchreadings.read_log, lines=wrong), ("NotUsable", "lines", -1)), wrong)

    def test_other_names(self):
        # The names of the houses play no part.
        self.assertEqual(outcome(netparts.lots_of, NAMED, "zzzzzzzz"), ("returns", (("ab",), ("b",))))
        self.assertEqual(outcome(netparts.lots_of, NAMED, "a"), ("NotUsable", "house", -1))


if __name__ == "__main__":
    unittest.main()
