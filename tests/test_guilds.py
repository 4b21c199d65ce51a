"""[28], [29], (G2), [32]: guilds, guild papers and their checker."""

import itertools
import random
import unittest

from ownfears.guildchecker import lets_guild
from ownfears.guilds import greatest_guild, guild_paper, is_guild
from ownfears.netclasses import Lots, Net
from ownfears.plainquorums import plain_quorums
from tests import plainguilds as guilds
from tests import plainwords as plain
from tests.anyvalues import EVERY_KIND, double_mutants, mutants
from tests.sameness import outcome, same
from tests.smallnets import CALM, FOUR, LONE, LOST, MEEK, NINE, OWN, SMALL, TWO, TWO_HOUSES, all_quorums, drawn_nets
from tests.smallsettings import ABC, ABC_QUORUMS, MEEK_QUORUMS, THREES, drawn_quorums


def drawn_pairs(seed, many, greatest=4):
    """Nets with quorums, whether they fit or not."""
    rng = random.Random(seed)
    nets = drawn_nets(seed, many, 1, greatest)
    return [(net, drawn_quorums(rng, net[0], rng.choice((1, 3)))) for net in nets]


def small_pairs():
    return [(net, quorums) for net in SMALL for quorums in all_quorums(net[0])]


PAIRS = drawn_pairs(51, 150) + [
    (FOUR, THREES), (OWN, THREES), (MEEK, MEEK_QUORUMS), (ABC, ABC_QUORUMS), (LONE, ((("a",),),)), (LOST, ((("a",),),)),
]


class GuildsTest(unittest.TestCase):
    def judged(self, net, quorums):
        before = {}
        for fall in plain.subsets(net[0]):
            some = guilds.guilds(net, quorums, fall)
            union = tuple(sorted(set().union(*some)))
            # (G2), [32]: guilds together are one, and the greatest one has all of them.
            self.assertIn(union, some)
            self.assertTrue(same(greatest_guild(net, quorums, fall), union))
            for one, other in itertools.combinations(some, 2):
                self.assertIs(is_guild(net, quorums, fall, tuple(sorted(set(one) | set(other)))), True)
            for lot in plain.subsets(net[0]):
                self.assertIs(is_guild(net, quorums, fall, lot), lot in some)
            paper = guild_paper(net, quorums, fall)
            self.assertEqual(next(guilds.guild_errors(net, quorums, fall, paper), None), None)
            self.assertTrue(same(lets_guild(net, quorums, fall, paper), len(union)))
            self.assertEqual(paper[0], union)
            self.assertFalse(set(union) & set(fall))
            before[fall] = union
        for fall, lesser in itertools.product(before, repeat=2):
            if set(lesser) <= set(fall):
                self.assertTrue(set(before[fall]) <= set(before[lesser]))
        self.assertEqual(before[()], net[0])

    def test_all_quorums_of_small_nets(self):
        for net, quorums in small_pairs():
            self.judged(net, quorums)

    def test_drawn_quorums(self):
        for net, quorums in PAIRS:
            self.judged(net, quorums)

    def test_of_the_document(self):
        self.assertEqual(greatest_guild(FOUR, THREES, ("a",)), ("b", "c", "d"))
        self.assertEqual(greatest_guild(MEEK, MEEK_QUORUMS, ("a",)), ())
        self.assertEqual(lets_guild(MEEK, MEEK_QUORUMS, ("a",), ((), (("a", "d"), ("c",), ("b",)))), 0)

    def test_edges(self):
        # The empty fall and the fall of all houses.
        self.assertEqual(guild_paper(FOUR, THREES, ()), (("a", "b", "c", "d"), ()))
        self.assertEqual(guild_paper(FOUR, THREES, ("a", "b", "c", "d")), ((), (("a", "b", "c", "d"),)))
        self.assertEqual(greatest_guild(LONE, ((("a",),),), ()), ("a",))
        self.assertEqual(greatest_guild(LOST, ((("a",),),), ("a",)), ())
        # The guild of nobody is one in each fall.
        for fall in plain.subsets(FOUR[0]):
            self.assertIs(is_guild(FOUR, THREES, fall, ()), True)
        # A guild is more than a quorum if its houses need others.
        chain = (("a", "b", "c"), (((),), ((),), ((),)))
        quorums = ((("b",),), (("c",),), (("a",), ("c",)))
        self.assertEqual([lot for lot in plain.subsets("abc") if is_guild(chain, quorums, (), lot)],
                         [(), ("c",), ("b", "c"), ("a", "b", "c")])
        # Nine houses, twenty lots and quorums.
        self.assertEqual(greatest_guild(CALM, plain_quorums(CALM), ("a", "b")), ("c", "d", "e", "f", "g", "h", "i"))
        self.assertEqual(lets_guild(CALM, plain_quorums(CALM), ("a", "b"), guild_paper(CALM, plain_quorums(CALM), ("a", "b"))), 7)
        for fall in (("d",), ("a", "b"), ("a", "b", "c"), ("h",), NINE[0]):
            wanted = lets_guild(NINE, plain_quorums(NINE), fall, guild_paper(NINE, plain_quorums(NINE), fall))
            self.assertEqual(len(greatest_guild(NINE, plain_quorums(NINE), fall)), wanted)

    def test_every_kind_of_value(self):
        for net, quorums, fall in [(FOUR, THREES, ("a",)), (ABC, ABC_QUORUMS, ()), (LONE, ((("a",),),), ())]:
            for thing in EVERY_KIND + [Net.of(OWN), Lots()]:
                self.assertIs(is_guild(net, quorums, fall, thing), guilds.is_guild(net, quorums, fall, thing))

    def test_by_name(self):
        given = {"fall": ("a",), "quorums": THREES, "net": FOUR}
        self.assertEqual(greatest_guild(**given), ("b", "c", "d"))
        self.assertEqual(lets_guild(thing=guild_paper(**given), **given), 3)
        self.assertIs(is_guild(thing=("b", "c", "d"), **given), True)

    def test_two_wise_houses_share_one_that_has_not_fallen(self):
        # (G2) of quorums that fit.
        for net, quorums in small_pairs() + PAIRS:
            if plain.fits(net, quorums):
                for fall, house, other in itertools.product(plain.subsets(net[0]), net[0], net[0]):
                    if "wise" == guilds.state(net, fall, house) == guilds.state(net, fall, other):
                        for q, r in itertools.product(*(guilds.quorums_of(net, quorums, x) for x in (house, other))):
                            self.assertTrue(set(q) & set(r) - set(fall))


FALL = ("a",)
# One entry of the list at a time, and two at once, for MEEK in the fall of a: d is naive, b and c are wise.
FAULTS = [
    (None, "shape", -1), (((), [])[0:1], "shape", -1), (((), (), ()), "shape", -1), ([(), ()], "shape", -1),
    (((), []), "shape", -1), (([], ()), "shape", -1), (("a", ()), "shape", -1), (((), None), "shape", -1),
    ((("b",), ()), "guild", -1), ((("d",), ()), "guild", -1), ((("c", "b"), ()), "guild", -1), ((("e",), ()), "guild", -1),
    (((1,), ()), "guild", -1), ((("b", "c"), ()), "guild", -1), ((("a",), ((),)), "guild", -1),
    (((), ((),)), "lot", 0), (((), (("a", "d"), ("x",))), "lot", 1), (((), (("d", "a"),)), "lot", 0),
    (((), (("a", "d"), None)), "lot", 1), (((), (["a"],)), "lot", 0), (((), ("a",)), "lot", 0),
    (((), (("a", "d"), ("d",))), "twice", 1), (((), (("a", "d"), ("c",), ("a", "b"))), "twice", 2),
    (((), (("c",),)), "round", 0), (((), (("a", "c", "d"), ("b",))), "round", 0), (((), (("a",), ("c",))), "round", 1),
    (((), (("a", "d"), ("b", "c"))), "round", 1),
    (((), ()), "rest", -1), (((), (("a", "d"),)), "rest", -1), (((), (("a", "d"), ("c",))), "rest", -1),
    # Two at once.
    (((), (("b",), ())), "round", 0), (((), (("a",), ("a", "c"))), "twice", 1), (((), (("a",), ("a", "x"))), "lot", 1),
    ((("b",), ((),)), "guild", -1), ((("b",), []), "shape", -1), (((), (("a",), ("b",), ())), "round", 1),
    (((), (("a",), (), ("c",))), "lot", 1),
]


class GuildCheckerTest(unittest.TestCase):
    def judged(self, net, quorums, fall, thing):
        wanted = next(guilds.guild_errors(net, quorums, fall, thing), None)
        found = outcome(lets_guild, net, quorums, fall, thing)
        if wanted is None:
            some = guilds.guilds(net, quorums, fall)
            self.assertTrue(same(found, ("returns", max(map(len, some)))), (net, quorums, fall, thing, found))
        else:
            self.assertTrue(same(found, ("InvalidPaper",) + wanted), (net, quorums, fall, thing, found, wanted))

    def test_each_entry(self):
        for thing, word, at in FAULTS:
            found = outcome(lets_guild, MEEK, MEEK_QUORUMS, FALL, thing)
            self.assertTrue(same(found, ("InvalidPaper", word, at)), (thing, found))
            self.judged(MEEK, MEEK_QUORUMS, FALL, thing)
        # A house that stands in the guild and in a round; a house of the guild is wise, and so the first word is told.
        self.assertEqual(outcome(lets_guild, FOUR, THREES, FALL, (("b", "c", "d"), (("a",), ("b",)))), ("InvalidPaper", "twice", 1))
        # A guild that is not the greatest one leaves houses over.
        self.assertEqual(outcome(lets_guild, TWO, ((("a",),), (("b",),)), (), (("a",), ())), ("InvalidPaper", "rest", -1))
        self.assertEqual(outcome(lets_guild, TWO, ((("a",),), (("b",),)), (), (("a",), (("b",),))), ("InvalidPaper", "round", 0))

    def test_every_kind_of_value(self):
        for net, quorums, fall in [(FOUR, THREES, ("a",)), (ABC, ABC_QUORUMS, ()), (LONE, ((("a",),),), ())]:
            for thing in EVERY_KIND + [Net.of(OWN), Lots(), (Lots(), ()), ((), (Lots(),))]:
                self.judged(net, quorums, fall, thing)

    def test_one_fault_and_two(self):
        rng = random.Random(52)
        for net, quorums, fall in [(FOUR, THREES, ("a",)), (MEEK, MEEK_QUORUMS, ("a",)), (MEEK, MEEK_QUORUMS, ("c",)),
                                   (ABC, ABC_QUORUMS, ("b",)), (TWO, ((("a",),), (("b",),)), ("a", "b"))]:
            paper = guild_paper(net, quorums, fall)
            for thing in itertools.chain(mutants(paper), double_mutants(paper, rng, 500)):
                self.judged(net, quorums, fall, thing)

    def test_all_papers_of_small_nets(self):
        rounds = [()] + [some for size in (1, 2, 3) for some in itertools.product(plain.subsets("ab"), repeat=size)]
        rng = random.Random(53)
        for net, quorums in rng.sample([pair for pair in small_pairs() if pair[0] in TWO_HOUSES], 40):
            for fall, guild, some in itertools.product(plain.subsets("ab"), plain.subsets("ab"), rounds):
                self.judged(net, quorums, fall, (guild, some))

    def test_other_rounds(self):
        # Rounds may strike fewer houses at a time than the returned ones do.
        rng = random.Random(54)
        for net, quorums in PAIRS:
            fall = rng.choice(plain.subsets(net[0]))
            guild, rounds = guild_paper(net, quorums, fall)
            single = tuple((house,) for lot in rounds for house in lot)
            self.assertEqual(lets_guild(net, quorums, fall, (guild, single)), len(guild))
            for some in (rounds[1:], rounds[:-1], rounds[::-1], single[::-1], single[1:], (guild,) + rounds):
                self.judged(net, quorums, fall, (guild, some))
            for other in guilds.guilds(net, quorums, fall):
                self.judged(net, quorums, fall, (other, rounds))


if __name__ == "__main__":
    unittest.main()
