"""[60], [61], [62], (G4), (G6): the falls that tell all, falls papers and their checker."""

import itertools
import random
import unittest

from ownfears.alikenets import alike_net
from ownfears.fallchecker import lets_falls
from ownfears.guilds import greatest_guild
from ownfears.leastfalls import falls_paper, hearing_falls, leaving_falls, parting_falls, safe_pairs
from ownfears.leaving import can_leave, hears_sender, leave_paper
from ownfears.parting import can_part, part_paper
from ownfears.plainquorums import plain_quorums
from tests import plainguilds as guilds
from tests import plainpapers as papers
from tests import plainruns as runs
from tests import plainwords as plain
from tests.anyvalues import EVERY_KIND, double_mutants, mutants
from tests.sameness import outcome, same
from tests.smallnets import FOUR, LONE, MEEK, drawn_nets
from tests.smallsettings import (
    ABC, ABC_QUORUMS, HEARD, MEEK_QUORUMS, MIXED, NEVER, ONE_SETTING, PAIRS, READY, SENT, SETTINGS, SHORT, THREES, drawn_settings,
)

FREE_SHORT = (("take", False, ((("sender",),),)),)
PARTS = [setting[:4] for setting in SETTINGS] + [
    (ABC, PAIRS, FREE_SHORT, "a"), (ABC, PAIRS, SHORT, "b"), (ABC, PAIRS, SENT, "c"), (MEEK, MEEK_QUORUMS, READY, "c"), (FOUR, THREES, SENT, "a"),
]
SMALL_PARTS = [parts for parts in PARTS if len(parts[0][0]) * len(parts[2]) <= 6]
CRUMBS = (ABC, PAIRS, SHORT, "a")
FOUR_SENT = (FOUR, THREES, SENT, "a")


def falls_of(parts, *houses):
    return [fall for fall in plain.subsets(parts[0][0]) if not set(fall) & set(houses)]


def minimal(some):
    return tuple(sorted({x for x in some if not any(set(y) < set(x) for y in some)}))


def pairs_of(parts):
    return list(itertools.product(parts[0][0], repeat=2))


class FamiliesTest(unittest.TestCase):
    def judged(self, parts, parts_in, leaves_in, hears_in):
        """Compare with what these functions tell of the pairs in each fall."""
        for house, other in pairs_of(parts):
            falls = falls_of(parts, house, other)
            wanted = minimal([fall for fall in falls if (house, other) in parts_in[fall]])
            self.assertTrue(same(parting_falls(*parts, house, other), wanted), (parts, house, other))
            wanted = minimal([fall for fall in falls if (house, other) in leaves_in[fall]])
            self.assertTrue(same(leaving_falls(*parts, house, other), wanted), (parts, house, other))
        for house in parts[0][0]:
            wanted = plain.maximal([fall for fall in falls_of(parts, house) if house in hears_in[fall]])
            self.assertTrue(same(hearing_falls(*parts, house), wanted), (parts, house))
        wanted = tuple(
            (house, other) for house, other in pairs_of(parts) if house < other and not any(
                {(house, other), (other, house)} & parts_in[fall] for fall in falls_of(parts, house, other)
                if plain.reckons(parts[0], house, fall) and plain.reckons(parts[0], other, fall)))
        self.assertTrue(same(safe_pairs(*parts), wanted), parts)

    def test_going_through_all_runs(self):
        some = SMALL_PARTS + [one[:4] for one in drawn_settings(261, 300, 3, 2, 99) if len(one[0][0]) * len(one[2]) <= 4][:50]
        for parts in some:
            settings = {fall: parts + (fall,) for fall in plain.subsets(parts[0][0])}
            parts_in = {fall: runs.parted_pairs(setting) for fall, setting in settings.items()}
            leaves_in = {fall: runs.left_pairs(setting) for fall, setting in settings.items()}
            hears_in = {fall: {one[0] for one in runs.sure_behind(setting, ()) if one == runs.taking(setting, one[0])} if parts[3] not in fall else set()
                        for fall, setting in settings.items()}
            self.judged(parts, parts_in, leaves_in, hears_in)

    def test_all_falls(self):
        for parts in PARTS + [one[:4] for one in drawn_settings(262, 60, 4, 3, 99)]:
            settings = {fall: parts + (fall,) for fall in plain.subsets(parts[0][0])}
            pairs = {fall: list(itertools.product(runs.left_houses(setting), repeat=2)) for fall, setting in settings.items()}
            parts_in = {fall: {pair for pair in pairs[fall] if can_part(setting, *pair)} for fall, setting in settings.items()}
            leaves_in = {fall: {pair for pair in pairs[fall] if can_leave(setting, *pair)} for fall, setting in settings.items()}
            hears_in = {fall: {house for house in runs.left_houses(setting) if hears_sender(setting, house)} for fall, setting in settings.items()}
            self.judged(parts, parts_in, leaves_in, hears_in)

    def test_named_edges(self):
        # Families that are (), no pair that is safe, all pairs safe.
        never = (ABC, PAIRS, NEVER, "a")
        self.assertEqual([parting_falls(*never, "b", "c"), leaving_falls(*never, "b", "c"), hearing_falls(*never, "b")], [(), (), ()])
        self.assertEqual(safe_pairs(*never), (("a", "b"), ("a", "c"), ("b", "c")))
        nobody = (("a", "b"), ((("b",),), (("a",),)))
        self.assertEqual(safe_pairs(nobody, ((("a",),), (("b",),)), FREE_SHORT, "a"), (("a", "b"),))
        wide = (("a", "b", "c"), ((("c",),), (("c",),), (("a", "b"),)))
        self.assertEqual(safe_pairs(wide, PAIRS, SHORT, "c"), (("a", "c"), ("b", "c")))
        every = (("a", "b", "c"), ((("a",), ("b",), ("c",)),) * 3)
        self.assertEqual([safe_pairs(every, PAIRS, (("take", True, ((("one", "take"),),)),), "c"), safe_pairs(every, PAIRS, SHORT, "c")], [(), (("a", "c"), ("b", "c"))])
        self.assertEqual(safe_pairs(*ONE_SETTING[:4]), ())
        # Parted in one order alone: who hears itself takes v alone, who hears c, fallen, either value.
        for quorums in ((("a",),), (("c",),), (("a",),)), ((("c",),), (("b",),), (("a",),)):
            parts = (wide, quorums, SENT, "a")
            self.assertEqual([parting_falls(*parts, "a", "b"), parting_falls(*parts, "b", "a")].count(()), 1)
            self.assertNotIn(("a", "b"), safe_pairs(*parts))
        # House and other the same; the sender among them.
        self.assertEqual(parting_falls(ABC, PAIRS, FREE_SHORT, "a", "b", "b"), (("a",),))
        self.assertEqual(parting_falls(ABC, PAIRS, SHORT, "a", "b", "b"), ())
        self.assertEqual(parting_falls(ABC, PAIRS, SHORT, "a", "b", "a"), ())
        self.assertEqual(leaving_falls(ABC, PAIRS, SHORT, "a", "b", "b"), ())
        self.assertEqual(leaving_falls(ABC, PAIRS, SHORT, "a", "b", "c"), (("a",),))
        self.assertEqual(hearing_falls(ABC, PAIRS, SHORT, "a", "a"), (("b", "c"),))
        self.assertEqual(hearing_falls(ABC, PAIRS, SHORT, "a", "b"), (("c",),))
        # One house: without it there is the empty fall alone.
        self.assertEqual([parting_falls(*ONE_SETTING[:4], "a", "a"), leaving_falls(*ONE_SETTING[:4], "a", "a"), hearing_falls(*ONE_SETTING[:4], "a")], [(), (), ((),)])
        # Whoever falls says what one asks for.
        free = (ABC, PAIRS, (("take", False, ((("one", "take"),),)),), "a")
        self.assertEqual(parting_falls(*free, "a", "b"), (("c",),))

    def test_six_houses(self):
        six = alike_net(tuple("abcdef"), 1)
        quorums = plain_quorums(six)
        self.assertEqual(parting_falls(six, quorums, READY, "a", "c", "d"), (("a", "b", "e", "f"),))
        self.assertEqual(leaving_falls(six, quorums, READY, "a", "c", "d"), tuple(itertools.combinations("abef", 2)))
        self.assertEqual(hearing_falls(six, quorums, READY, "a", "c"), tuple((house,) for house in "bdef"))
        self.assertEqual(len(safe_pairs(six, quorums, READY, "a")), 15)

    def test_by_name(self):
        named = dict(zip(("net", "quorums", "protocol", "sender"), FOUR_SENT))
        self.assertEqual(parting_falls(other="d", house="c", **named), (("a", "b"),))
        self.assertEqual(leaving_falls(other="d", house="c", **named), (("a",),))
        self.assertEqual(hearing_falls(house="c", **named), (("b",), ("d",)))
        self.assertEqual(len(safe_pairs(**named)), 6)
        paper = falls_paper(other="d", house="c", kind="parting", **named)
        self.assertTrue(same(paper, falls_paper(*FOUR_SENT, "parting", "c", "d")))
        self.assertEqual(lets_falls(thing=paper, **named), (("a", "b"),))

    def test_refused_in_order(self):
        good = dict(zip(("net", "quorums", "protocol", "sender"), CRUMBS))
        more = {"kind": "leaving", "house": "b", "other": "c"}
        wrong = {"net": [(), ABC[0], list(ABC)], "quorums": [PAIRS[:2], ((),) * 3, ABC], "protocol": [(), list(SHORT), SHORT * 2], "sender": ["d", ("a",), None],
                 "kind": ["parted", "", None, ("parting",), "leave"], "house": ["d", ["b"], 0], "other": ["d", (), True]}
        for function, words in [(parting_falls, ("house", "other")), (leaving_falls, ("house", "other")), (hearing_falls, ("house",)), (safe_pairs, ()),
                                (falls_paper, ("kind", "house", "other"))]:
            given = {**good, **{word: more[word] for word in words}}
            self.assertEqual(outcome(function, **given)[0], "returns")
            for k, word in enumerate(given):
                for one in wrong[word]:
                    self.assertTrue(same(outcome(function, **{**given, word: one}), ("NotUsable", word, -1)), (function, word, one))
                    for later in list(given)[k + 1:]:
                        self.assertTrue(same(outcome(function, **{**given, word: one, later: wrong[later][0]}), ("NotUsable", word, -1)))
        for k, word in enumerate(good):
            for one in wrong[word]:
                self.assertTrue(same(outcome(lets_falls, **{**good, word: one}, thing=None), ("NotUsable", word, -1)))


class FallsPaperTest(unittest.TestCase):
    def told(self, parts, kind, house, other):
        paper = falls_paper(*parts, kind, house, other)
        self.assertEqual(next(papers.falls_errors(*parts, paper), None), None, (parts, kind, house, other))
        wanted = (parting_falls if kind == "parting" else leaving_falls)(*parts, house, other)
        self.assertTrue(same(lets_falls(*parts, paper), wanted))
        self.assertEqual(paper[:3], (kind, house, other))
        return paper

    def test_papers(self):
        for parts in PARTS + [one[:4] for one in drawn_settings(263, 60, 4, 3, 99)]:
            for house, other in pairs_of(parts):
                for kind in ("parting", "leaving"):
                    self.told(parts, kind, house, other)

    def test_larger_papers(self):
        rng = random.Random(264)
        for parts in [one[:4] for one in drawn_settings(265, 20, 6, 4, 99)]:
            self.told(parts, rng.choice(("parting", "leaving")), rng.choice(parts[0][0]), rng.choice(parts[0][0]))
        six = alike_net(tuple("abcdef"), 1)
        paper = self.told((six, plain_quorums(six), READY, "a"), "leaving", "c", "d")
        self.assertEqual((len(paper[3]), len(paper[4])), (6, 4))


class LetsFallsTest(unittest.TestCase):
    def judged(self, parts, thing):
        error = next(papers.falls_errors(*parts, thing), None)
        wanted = ("InvalidPaper",) + error if error else ("returns", minimal([fall for fall, _ in thing[3]]))
        found = outcome(lets_falls, *parts, thing)
        self.assertTrue(same(found, wanted), (thing, found, wanted))
        return found

    def refused(self, thing, word, at, parts=CRUMBS):
        self.assertTrue(same(self.judged(parts, thing), ("InvalidPaper", word, at)), (thing, word, at))

    def pair(self, fall, kind="parting", house="b", other="c"):
        return (fall, (part_paper if kind == "parting" else leave_paper)(CRUMBS + (fall,), house, other))

    def test_shapes(self):
        paper = falls_paper(*CRUMBS, "parting", "b", "c")
        for thing in EVERY_KIND + [list(paper), paper[:4], paper + ((),), ("parted",) + paper[1:], (None,) + paper[1:], (("parting",),) + paper[1:]]:
            self.refused(thing, "shape", -1)
        for thing in [("parting", "d", "c", (), ()), ("parting", "b", "d", (), ()), ("parting", None, "c", (), ()), ("parting", ("b",), "c", (), ()), ("parting", "b", 1, (), ()),
                      ("parting", "b", "c", [], ()), ("parting", "b", "c", (), None), ("parting", "b", "c", (1,), ()), ("parting", "b", "c", ((),), ()), ("parting", "b", "c", (), ((1,),)),
                      ("parting", "b", "c", (), ((1, 2, 3),)), ("parting", "b", "c", (), ([(), ()],)), ("parting", "b", "c", (), "ab")]:
            self.refused(thing, "shape", -1)

    def test_entries(self):
        bad, good = self.pair(("a",)), self.pair(())
        self.assertEqual((bad[1][0], good[1][0]), ("parted", "kept"))
        self.assertEqual(lets_falls(*CRUMBS, ("parting", "b", "c", (bad,), (good,))), (("a",),))
        for thing in [None, ("b",), ("c",), ("d",), ["a"], "a", ("a", "b"), ("a", "a"), ("c", "a"), ((),)]:
            self.refused(("parting", "b", "c", ((thing, bad[1]),), (good,)), "fall", (0, 0))
            self.refused(("parting", "b", "c", (bad, (thing, None)), (good,)), "fall", (0, 1))
            self.refused(("parting", "b", "c", (bad,), (good, good, (thing, good[1]))), "fall", (1, 2))
        for thing in [None, (), good[1], ("parted", (), ()), leave_paper(CRUMBS + (("a",),), "b", "c")]:
            self.refused(("parting", "b", "c", ((("a",), thing),), (good,)), "paper", (0, 0))
            self.refused(("parting", "b", "c", (bad, bad, (("a",), thing)), ()), "paper", (0, 2))
        for thing in [None, (), bad[1], ("kept", ("v", (None,)))]:
            self.refused(("parting", "b", "c", (bad,), (((), thing),)), "paper", (1, 0))
        # Both words, each in the wrong tuple.
        self.refused(("parting", "b", "c", (good,), (bad,)), "paper", (0, 0))
        self.refused(("parting", "b", "c", (bad,), (good, bad)), "paper", (1, 1))
        # Papers of the other kind.
        left, kept = self.pair(("a",), "leaving"), self.pair((), "leaving")
        self.assertEqual(lets_falls(*CRUMBS, ("leaving", "b", "c", (left,), (kept,))), (("a",),))
        self.refused(("leaving", "b", "c", (bad,), (kept,)), "paper", (0, 0))
        self.refused(("parting", "b", "c", (left,), (good,)), "paper", (0, 0))

    def test_falls_that_are_left(self):
        bad, good = self.pair(("a",)), self.pair(())
        self.refused(("parting", "b", "c", (), ()), "left", ())
        self.refused(("parting", "b", "c", (bad,), ()), "left", ())
        self.refused(("parting", "b", "c", (), (good,)), "left", ("a",))
        four = falls_paper(*FOUR_SENT, "leaving", "c", "d")
        self.refused(four[:3] + ((), ()), "left", (), FOUR_SENT)
        self.refused(four[:4] + ((((), leave_paper(FOUR_SENT + ((),), "c", "d")),),), "left", ("b",), FOUR_SENT)
        self.refused(four[:3] + ((), four[4]), "left", ("a",), FOUR_SENT)
        # The errors ahead come first, those of bad ahead of those of good.
        self.refused(("parting", "b", "c", (bad, None), ()), "shape", -1)
        self.refused(("parting", "b", "c", (bad, (None, None)), ((None, None),)), "fall", (0, 1))
        self.refused(("parting", "b", "c", ((("a",), None), (None, None)), ()), "paper", (0, 0))

    def test_more_falls_than_are_wanted_in_any_order(self):
        rng = random.Random(266)
        for parts in [FOUR_SENT, (FOUR, THREES, READY, "a"), (ABC, PAIRS, SENT, "b"), (ABC, ABC_QUORUMS, MIXED, "a")]:
            for kind, (house, other) in itertools.product(("parting", "leaving"), pairs_of(parts)[:7]):
                tell, least = (part_paper, parting_falls) if kind == "parting" else (leave_paper, leaving_falls)
                some = [(fall, tell(parts + (fall,), house, other)) for fall in falls_of(parts, house, other)] * 2
                rng.shuffle(some)
                bad = tuple(pair for pair in some if pair[1][0] != "kept")
                good = tuple(pair for pair in some if pair[1][0] == "kept")
                self.assertTrue(same(self.judged(parts, (kind, house, other, bad, good)), ("returns", least(*parts, house, other))))
                for _ in range(3):
                    self.judged(parts, (kind, house, other, tuple(rng.sample(bad, len(bad) // 2)), tuple(rng.sample(good, len(good) // 2))))

    def test_faults_of_papers(self):
        rng = random.Random(267)
        for parts, kind, house, other in [(CRUMBS, "parting", "b", "c"), (CRUMBS, "leaving", "c", "b"), (FOUR_SENT, "leaving", "c", "d"), ((ABC, PAIRS, SENT, "b"), "parting", "a", "a")]:
            paper = falls_paper(*parts, kind, house, other)
            things = list(mutants(paper))
            for thing in itertools.chain(rng.sample(things, min(len(things), 700)), double_mutants(paper, rng, 200)):
                self.judged(parts, thing)


class ConsequencesTest(unittest.TestCase):
    def test_falls_that_include_a_least_one(self):
        for parts in PARTS + [one[:4] for one in drawn_settings(268, 40, 4, 3, 99)]:
            for house, other in pairs_of(parts):
                for family, can in ((parting_falls(*parts, house, other), can_part), (leaving_falls(*parts, house, other), can_leave)):
                    for fall in falls_of(parts, house, other):
                        self.assertIs(can(parts + (fall,), house, other), any(set(one) <= set(fall) for one in family))
            for house in parts[0][0]:
                family = hearing_falls(*parts, house)
                for fall in falls_of(parts, house):
                    self.assertIs(hears_sender(parts + (fall,), house), any(set(fall) <= set(one) for one in family))

    def test_the_protocols_of_the_document(self):
        # For quorums that agree.
        nets = [FOUR, MEEK, LONE] + [net for net in drawn_nets(269, 300, 3, 4) if not plain.has_cover(net)][:12]
        for net in nets:
            quorums = THREES if net == FOUR else MEEK_QUORUMS if net == MEEK else plain_quorums(net)
            for protocol in (SENT, READY):
                parts = (net, quorums, protocol, net[0][-1])
                self.assertEqual(safe_pairs(*parts), tuple(itertools.combinations(net[0], 2)))
                for house in net[0]:
                    family = hearing_falls(*parts, house)
                    for fall in plain.subsets(net[0]):
                        if parts[3] not in fall and house in greatest_guild(net, quorums, fall):
                            self.assertTrue(any(set(fall) <= set(one) for one in family))
            for house, other in itertools.product(net[0], repeat=2):
                family = leaving_falls(net, quorums, READY, net[0][0], house, other)
                for fall in falls_of((net,), house, other):
                    if house in greatest_guild(net, quorums, fall) and guilds.state(net, fall, other) == "wise":
                        self.assertFalse(any(set(one) <= set(fall) for one in family))

    def test_settings_of_the_document(self):
        self.assertEqual(hearing_falls(*HEARD[:4], "a"), (("b",), ("c",), ("d",)))


if __name__ == "__main__":
    unittest.main()
