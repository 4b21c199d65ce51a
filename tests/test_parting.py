"""[57], [58], (G3), (G4), (G6): houses that can be parted, part papers and their checker."""

import itertools
import random
import unittest

from ownfears.alikenets import alike_net
from ownfears.partchecker import lets_part
from ownfears.parting import can_part, part_paper
from ownfears.plainquorums import plain_quorums
from tests import plainguilds as guilds
from tests import plainpapers as papers
from tests import plainruns as runs
from tests import plainwords as plain
from tests.anyvalues import EVERY_KIND, double_mutants, mutants
from tests.sameness import outcome, same
from tests.smallnets import FOUR, LONE, MEEK, drawn_nets
from tests.smallsettings import (
    ABC, ABC_QUORUMS, ALONE, BOTH, HEARD, LATE, LIED, MEEK_QUORUMS, MIXED, NEVER, ONE_SETTING, PAIRS, READY, SENT, SETTINGS, SHORT,
    SMALL_SETTING, THREES, drawn_settings,
)

FREE_SHORT = (("take", False, ((("sender",),),)),)
FREE_ECHO = (("echo", False, ((("sender",),),)), ("take", True, ((("quorum", "echo"),),)))
SMALL_ONES = [setting for setting in SETTINGS if len(runs.all_sayings(setting)) <= 12] + [
    (ABC, PAIRS, SENT, "a", ("a",)), (ABC, PAIRS, FREE_ECHO, "b", ("b",)), (ABC, PAIRS, FREE_SHORT, "a", ("a", "b")),
    (ABC, ABC_QUORUMS, SENT, "b", ("b",)), (ABC, PAIRS, SHORT, "a", ("a",)),
]
SIX = alike_net(tuple("abcdef"), 1)
SIX_PAIRS = alike_net(tuple("abcdef"), 2)


def with_falls(setting):
    return [setting[:4] + (fall,) for fall in plain.subsets(setting[0][0])]


def pairs_left(setting):
    return list(itertools.product(runs.left_houses(setting), repeat=2))


def calm_sets(setting, value):
    """All that runs with this value alone have for their sayings."""
    return runs.said_sets(setting, (value,))


class PartingTest(unittest.TestCase):
    def told(self, setting, house, other, parted):
        """Check that the paper is as it should be, and tells what it should."""
        self.assertIs(can_part(setting, house, other), parted, (setting, house, other))
        paper = part_paper(setting, house, other)
        self.assertEqual(next(papers.part_errors(setting, house, other, paper), None), None, (setting, house, other, paper))
        self.assertEqual(paper[0], "parted" if parted else "kept")
        self.assertEqual(lets_part(setting, house, other, paper), paper[0])

    def judged(self, setting):
        pairs = runs.parted_pairs(setting)
        for house, other in pairs_left(setting):
            self.told(setting, house, other, (house, other) in pairs)
        return pairs

    def test_of_the_document(self):
        self.assertEqual([can_part(ALONE, "c", "d"), can_part(BOTH, "c", "d"), can_part(BOTH, "c", "c")], [False, True, False])

    def test_all_runs_of_settings(self):
        for setting in SMALL_ONES:
            self.judged(setting)

    def test_all_runs_of_drawn_settings(self):
        found = []
        for setting in drawn_settings(231, 1500, 4, 3, 5):
            if setting[3] in setting[4] and runs.left_houses(setting):
                found.append(self.judged(setting))
        self.assertGreater(len([pairs for pairs in found if pairs]), 60)
        self.assertGreater(len([pairs for pairs in found if not pairs]), 60)

    def test_two_runs_of_one_value_each(self):
        # (G3): parted exactly if two such runs use no place in both.
        for setting in SMALL_ONES + [one for one in drawn_settings(232, 600, 4, 3, 6) if one[3] in one[4]]:
            onces = set(papers.once_places(setting))
            uses = [{frozenset(one[:2] for one in said): said for said in calm_sets(setting, value)} for value in "vw"]
            for house, other in pairs_left(setting):
                firsts = [places for places, said in uses[0].items() if runs.taking(setting, house, "v") in said]
                seconds = [places for places, said in uses[1].items() if runs.taking(setting, other, "w") in said]
                wanted = any(not one & two & onces for one in firsts for two in seconds)
                self.assertIs(can_part(setting, house, other), wanted, (setting, house, other))

    def test_larger_settings(self):
        # Papers show by themselves what they tell.
        rng = random.Random(233)
        many = 0
        for setting in drawn_settings(234, 900, 6, 4, 99):
            if setting[4] and runs.left_houses(setting):
                house, other = rng.choice(pairs_left(setting))
                self.told(setting[:3] + (setting[4][0],) + setting[4:], house, other, can_part(setting[:3] + (setting[4][0],) + setting[4:], house, other))
                many += 1
        self.assertGreater(many, 400)

    def test_six_houses(self):
        for net, most in [(SIX, 3), (SIX_PAIRS, 1)]:
            for protocol, many in itertools.product((SENT, READY), range(5)):
                self.told((net, plain_quorums(net), protocol, "a", tuple("abcdef"[:many])), "e", "f", many > most)

    def test_named_edges(self):
        # House and other the same: never by a taking that is once, but by one that is not.
        for setting in SETTINGS + drawn_settings(235, 100, 4, 3, 99):
            if setting[2][-1][1]:
                for house in runs.left_houses(setting):
                    self.told(setting, house, house, False)
        self.told((ABC, PAIRS, FREE_SHORT, "a", ("a",)), "b", "b", True)
        self.told((ABC, PAIRS, FREE_SHORT, "a", ()), "b", "b", False)
        self.told((ABC, PAIRS, FREE_SHORT, "a", ("b",)), "c", "a", False)
        # One house left; a stage without any way; a stage that hears itself alone.
        self.told((ABC, PAIRS, SHORT, "a", ("a", "b")), "c", "c", False)
        self.told((ABC, PAIRS, NEVER, "a", ("a",)), "b", "c", False)
        self.told((ABC, PAIRS, (("take", True, ((("self", "take"),),)),), "a", ("a",)), "b", "c", False)
        self.told(ONE_SETTING, "a", "a", False)
        # A sender that has fallen parts two who ask nobody else; one that has not does not.
        self.told((ABC, PAIRS, SHORT, "a", ("a",)), "b", "c", True)
        self.told((ABC, PAIRS, SHORT, "a", ("b",)), "a", "c", False)
        # Nobody has fallen: nobody says w.
        for setting in drawn_settings(236, 60, 4, 3, 99):
            if not any(way and all(one[0] == "self" for one in way) for stage in setting[2] for way in stage[2]):
                for house, other in pairs_left(setting[:4] + ((),)):
                    self.assertIs(can_part(setting[:4] + ((),), house, other), False)

    def test_papers_are_not_large(self):
        def size(tree):
            return 1 + size(tree[2]) + size(tree[3]) if tree[0] == "case" else 1
        for net, fall, most in [(SIX, "ab", 11), (SIX_PAIRS, "a", 39)]:
            word, tree = part_paper((net, plain_quorums(net), READY, "a", tuple(fall)), "e", "f")
            self.assertEqual(word, "kept")
            self.assertLessEqual(size(tree), most)
        self.assertEqual(part_paper(ALONE[:4] + ((),), "c", "d"), ("kept", ("w", ())))
        _, first, second = part_paper(BOTH, "c", "d")
        self.assertEqual((len(first), len(second)), (2, 2))

    def test_by_name_and_unchanged(self):
        before = repr(BOTH)
        self.assertIs(can_part(other="d", house="c", setting=BOTH), True)
        self.assertTrue(same(part_paper(other="d", house="c", setting=BOTH), part_paper(BOTH, "c", "d")))
        self.assertEqual(lets_part(thing=part_paper(BOTH, "c", "d"), other="d", house="c", setting=BOTH), "parted")
        self.assertEqual(repr(BOTH), before)

    def test_refused_in_order(self):
        paper = part_paper(BOTH, "c", "d")
        for args, word in [
            ((None, None, None), "setting"), ((HEARD[:4], "a", "b"), "setting"), ((list(HEARD), "a", "b"), "setting"), ((HEARD, None, None), "house"),
            ((HEARD, "d", "d"), "house"), ((HEARD, "d", "a"), "house"), ((HEARD, "e", "d"), "house"), ((HEARD, "a", "d"), "other"), ((HEARD, "a", None), "other"),
            ((HEARD, "a", "e"), "other"), ((BOTH, "c", "b"), "other"), ((BOTH, "a", "a"), "house"), ((BOTH, ("c",), "d"), "house"), ((BOTH, "c", ["d"]), "other"),
            ((HEARD[:4] + (("e",),), "d", "d"), "setting"), ((HEARD[:4] + (HEARD[0][0],), "a", "b"), "house"),
        ]:
            for function in (can_part, part_paper):
                self.assertTrue(same(outcome(function, *args), ("NotUsable", word, -1)), (function, args))
            for thing in (paper, None):
                self.assertTrue(same(outcome(lets_part, *args, thing), ("NotUsable", word, -1)), args)


class LetsPartTest(unittest.TestCase):
    def refused(self, setting, house, other, thing, word, at):
        self.assertTrue(same(outcome(lets_part, setting, house, other, thing), ("InvalidPaper", word, at)), (thing, outcome(lets_part, setting, house, other, thing)))
        self.assertEqual(next(papers.part_errors(setting, house, other, thing)), (word, at), thing)

    def test_shapes(self):
        leaf = ("w", ())
        for thing in [
            None, (), "kept", ("kept",), ("kept", ()), ("kept", None), ("kept", ("x", ())), ("kept", ("v", [])), ("kept", ("v",)), ("kept", ("v", (), ())),
            ["kept", leaf], ("Kept", leaf), ("parted", leaf), ("kept", ("case", 0, leaf)), ("kept", ("case", 0, leaf, None)), ("kept", ("case", 0, leaf, ("case", 0, leaf, ("w", 1)))),
            ("kept", ("case", 0, leaf, leaf, leaf)), ("kept", ["case", 0, leaf, leaf]), ("parted", ()), ("parted", (), [], ), ("parted", (), None), ("parted", (), (), ()),
            ("kept", (), ()), ("left", (), ()), ("kept", ("closed", ())), ("kept", ("sure", ())), ("kept", ("v", ()), ()), ("case", 0, leaf, leaf), leaf, ("kept", ("case", ())),
        ]:
            self.refused(ALONE, "c", "d", thing, "shape", -1)

    def test_runs(self):
        _, first, second = part_paper(BOTH, "c", "d")
        self.assertEqual(lets_part(BOTH, "c", "d", ("parted", first, second)), "parted")
        # More than is needed does no harm; both may use a place that is not once.
        free = (ABC, PAIRS, FREE_ECHO, "a", ("a",))
        long = (("b", "echo", "v"), ("c", "echo", "v"), ("b", "take", "v"))
        self.assertEqual(lets_part(free, "b", "c", ("parted", long, (("b", "echo", "w"), ("c", "echo", "w"), ("c", "take", "w")))), "parted")
        self.refused(free, "b", "c", ("parted", long + (("c", "take", "v"),), (("c", "echo", "w"), ("b", "echo", "w"), ("c", "take", "w"))), "place", ("c", "take"))
        for one, two, word, at in [
            ((), second, "first", -1), (first[:-1], second, "first", -1), (first[::-1], second, "first", -1), (second, second, "first", -1), (first + first[:1], second, "first", -1),
            ((None,), second, "first", -1), (first, (), "second", -1), (first, first, "second", -1), (first, second[:-1], "second", -1), (first, (None,), "second", -1),
            ((), (), "first", -1), (first[:1] + (("d", "echo", "w"),) + first[1:], second, "first", -1), (first, second[:1] + (("c", "echo", "v"),) + second[1:], "second", -1),
        ]:
            self.refused(BOTH, "c", "d", ("parted", one, two), word, at)

    def test_the_least_place_that_both_use(self):
        run = (("c", "echo", "v"), ("d", "echo", "v"), ("c", "take", "v"))
        other = (("d", "echo", "w"), ("c", "echo", "w"), ("d", "take", "w"))
        self.refused(BOTH, "c", "d", ("parted", run, other), "place", ("c", "echo"))
        self.refused(BOTH, "c", "d", ("parted", run, other[:1] + other[2:]), "place", ("d", "echo"))
        self.refused(BOTH, "c", "c", ("parted", run[:1] + run[2:], (("d", "echo", "w"), ("c", "take", "w"))), "place", ("c", "take"))

    def test_leaves(self):
        # In ALONE b, c and d echo, and two of them let one take.
        every = {value: tuple((house, "echo", value) for house in "bcd") for value in "vw"}
        for tree, at in [
            (("v", ()), ()), (("w", ()), ()), (("v", every["v"]), ()), (("v", every["w"]), ()), (("v", every["v"][::-1]), ()), (("v", every["v"] * 2), ()), (("v", (None,)), ()),
            (("w", every["w"] + (("c", "take", "w"),)), ()), (("v", (("a", "echo", "v"),)), ()),
            (("case", ("b", "echo"), ("v", ()), ("v", ())), (0,)), (("case", ("b", "echo"), ("case", ("c", "echo"), ("w", ()), ("w", ())), ("v", ())), (0, 0)),
        ]:
            self.refused(ALONE, "c", "d", ("kept", tree), "leaf", at)
        # All that can be said but at places given to w; there it may have some, and some that no run has.
        one = (SMALL_SETTING[0], ((("a", "b"),), (("a", "b"),), (("a", "b"),)), FREE_ECHO, "c", ("c",))
        take = tuple(sorted([("a", "echo", "w"), ("a", "take", "w"), ("b", "echo", "w")]))
        self.refused(one, "a", "b", ("kept", ("w", take)), "leaf", ())
        echoes = (("a", "echo", "v"), ("b", "echo", "v"))
        self.refused(one, "b", "b", ("kept", ("case", ("b", "take"), ("w", take), ("v", echoes))), "leaf", (1,))
        self.refused(one, "b", "b", ("kept", ("case", ("a", "take"), ("w", take), ("v", echoes))), "leaf", (0,))
        tree = ("case", ("b", "take"), ("w", take), ("v", tuple(sorted(echoes + (("a", "take", "v"),)))))
        self.assertEqual(lets_part(one, "b", "b", ("kept", tree)), "kept")
        self.refused(one, "a", "b", ("kept", tree), "leaf", (1,))
        some = ("case", ("a", "take"), ("case", ("b", "take"), ("w", tuple(sorted(take))), ("v", tree[3][1])), ("case", ("b", "take"), ("w", take), ("v", tree[3][1])))
        self.assertEqual(lets_part(one, "b", "b", ("kept", some)), "kept")
        # Sayings at places that no run reaches may stand in a leaf.
        never = (ABC, PAIRS, NEVER, "a", ("a",))
        self.assertEqual(lets_part(never, "b", "c", ("kept", ("v", (("c", "take", "v"),)))), "kept")
        self.refused(never, "b", "c", ("kept", ("v", (("b", "take", "v"),))), "leaf", ())

    def test_cases(self):
        leaf = ("v", ())
        free = (ABC, PAIRS, FREE_ECHO, "a", ("a",))
        for thing, setting, at in [
            (("b", "echo"), free, ()), (("a", "take"), free, ()), (("b", "x"), free, ()), (("b", "take", "v"), free, ()), (["b", "take"], free, ()), (None, free, ()), ((), free, ()),
            ("b", free, ()),
        ]:
            self.refused(setting, "b", "c", ("kept", ("case", thing, leaf, leaf)), "case", at)
        place = ("b", "take")
        kept = ("case", place, ("w", ()), ("v", (("b", "echo", "v"), ("c", "echo", "v"), ("c", "take", "v"))))
        self.refused(free, "b", "c", ("kept", ("case", place, kept, leaf)), "case", (0,))
        self.refused(free, "b", "b", ("kept", ("case", place, ("w", tuple(sorted([("b", "echo", "w"), ("c", "echo", "w"), ("c", "take", "w")]))), kept)), "case", (1,))
        # A case that is none comes ahead of its leaves, the first tree ahead of the second one.
        self.refused(free, "b", "c", ("kept", ("case", ("c", "take"), ("case", None, leaf, leaf), leaf)), "case", (0,))
        self.refused(free, "b", "c", ("kept", ("case", ("c", "take"), leaf, ("case", None, leaf, leaf))), "leaf", (0,))

    def test_faults_of_papers(self):
        rng = random.Random(237)
        free = (ABC, PAIRS, FREE_ECHO, "a", ("a",))
        some = [(BOTH, "c", "d"), (ALONE, "c", "d"), (LATE, "b", "c"), (free, "b", "b"), (free, "b", "c"), (SMALL_SETTING, "a", "b"), ((ABC, PAIRS, MIXED, "c", ("c",)), "a", "b")]
        spare = [None, True, 0, "", "a", "v", "w", "b", "kept", "case", (), ("v", ()), ("w", ()), ("b", "echo"), ("b", "take"), ("b", "echo", "v"), ("b", "take", "w"), []]
        for setting, house, other in some:
            paper = part_paper(setting, house, other)
            things = list(mutants(paper, spare))
            for thing in itertools.chain(EVERY_KIND, rng.sample(things, min(len(things), 900)), double_mutants(paper, rng, 300)):
                error = next(papers.part_errors(setting, house, other, thing), None)
                wanted = ("returns", thing[0]) if error is None else ("InvalidPaper",) + error
                self.assertTrue(same(outcome(lets_part, setting, house, other, thing), wanted), (setting, thing, outcome(lets_part, setting, house, other, thing), wanted))

    def test_no_paper_shows_what_does_not_hold(self):
        # (G6), for the papers of other houses, falls and protocols.
        rng = random.Random(238)
        settings = [one for one in drawn_settings(239, 300, 3, 2, 4) if one[3] in one[4]][:50] + [(ABC, PAIRS, SHORT, "a", ("a",)), (ABC, PAIRS, FREE_SHORT, "a", ("a",))]
        some = [part_paper(setting, house, other) for setting in settings for house, other in pairs_left(setting)]
        for setting in settings:
            pairs = runs.parted_pairs(setting)
            for house, other in pairs_left(setting):
                for paper in rng.sample(some, min(40, len(some))):
                    found = outcome(lets_part, setting, house, other, paper)
                    error = next(papers.part_errors(setting, house, other, paper), None)
                    self.assertTrue(same(found, ("returns", paper[0]) if error is None else ("InvalidPaper",) + error))
                    if found[0] == "returns":
                        self.assertEqual(paper[0] == "parted", (house, other) in pairs)


class ConsequencesTest(unittest.TestCase):
    def test_falls_within_falls(self):
        # (G4): who can be parted in a fall can in each that includes it.
        for setting in drawn_settings(240, 150, 4, 3, 99) + [HEARD, LIED, SMALL_SETTING, (ABC, PAIRS, MIXED, "c", ())]:
            parted = {one[4]: {pair for pair in pairs_left(one) if can_part(one, *pair)} for one in with_falls(setting)}
            for fall, lesser in itertools.product(parted, repeat=2):
                if set(lesser) <= set(fall):
                    self.assertTrue({pair for pair in parted[lesser] if not set(pair) & set(fall)} <= parted[fall], setting)

    def test_the_protocols_of_the_document(self):
        # [62]: for quorums that agree two wise houses are never parted by them.
        rng = random.Random(241)
        nets = [FOUR, MEEK, LONE] + [net for net in drawn_nets(242, 300, 3, 4) if not plain.has_cover(net)][:25]
        for net in nets:
            quorums = THREES if net == FOUR else MEEK_QUORUMS if net == MEEK else plain_quorums(net)
            sender = rng.choice(net[0])
            for fall in plain.subsets(net[0]):
                wise = [house for house in net[0] if guilds.state(net, fall, house) == "wise"]
                for house, other in itertools.product(wise, repeat=2):
                    for protocol in (SENT, READY):
                        self.assertIs(can_part((net, quorums, protocol, sender, fall), house, other), False)


if __name__ == "__main__":
    unittest.main()
