"""What holds over the whole program: other names, what objects and functions tell alike, what changes and what is equal."""

import itertools
import random
import unittest

from ownfears.alikenets import common_fears
from ownfears.benches import Bench, Fallen
from ownfears.benchtexts import log_lines
from ownfears.clashes import clashing, greatest_kept
from ownfears.coverchecker import lets_either
from ownfears.covers import all_covers, first_cover, fit_paper, has_cover
from ownfears.courses import Course, Warned
from ownfears.desks import Desk
from ownfears.fallchecker import lets_falls
from ownfears.falls import all_falls, naive_in, state_in, wise_in
from ownfears.fitting import agree, are_available, fits, missed_lot, torn_pair
from ownfears.goodchecker import lets_good
from ownfears.goodfalls import good_falls, good_paper
from ownfears.guildchecker import lets_guild
from ownfears.guilds import greatest_guild, guild_paper
from ownfears.kernels import kernels_of
from ownfears.leastfalls import falls_paper, hearing_falls, leaving_falls, parting_falls, safe_pairs
from ownfears.leavechecker import lets_leave
from ownfears.leaving import can_leave, hears_sender, leave_paper
from ownfears.netchanges import kept_to, renamed, with_lot, without_lot
from ownfears.netclasses import Alike, Lots, Net, Shut
from ownfears.netparts import both_reckon, feared_by, lots_of, reckons, rest_of
from ownfears.nettexts import lot_text, net_text
from ownfears.partchecker import lets_part
from ownfears.parting import can_part, part_paper
from ownfears.places import once_places, used_places
from ownfears.plainquorums import plain_quorums
from ownfears.runs import calm_run, lets_run, takers
from ownfears.sayings import can_say, possible_sayings
from ownfears.sayingtexts import run_text, saying_text
from ownfears.standings import Plain, Standing
from ownfears.strikechecker import lets_strikes
from ownfears.strikes import least_price, least_strikes, strike_paper
from ownfears.sure import all_sayable, sure_sayings
from tests import plainruns as runs
from tests import plainwords as plain
from tests.sameness import outcome, same
from tests.smallnets import FOUR, MEEK, OWN, TWO, drawn_net
from tests.smallsettings import ABC, ABC_QUORUMS, ALONE, BOTH, HEARD, LATE, LIED, PAIRS, READY, SENT, SMALL_SETTING, THREES, drawn_quorums

# No stage has the name of a house, so that names can be exchanged wherever they stand.
FREE = (("hint", False, ((("sender",),),)), ("late", True, ((("one", "hint"), ("self", "hint")), (("kernel", "late"),))), ("take", False, ((("quorum", "late"),),)))
PROTOCOLS = (SENT, READY, FREE)
RISING = {"a": "bb", "b": "c", "c": "mno", "d": "zzzzzzzz"}


def called(value, names):
    """The value with other names for the houses, wherever they stand."""
    if isinstance(value, (tuple, list)):
        return type(value)(called(part, names) for part in value)
    return names.get(value, value) if isinstance(value, str) else value


def set_called(value, names):
    """A set, of houses, of sets or of tuples that begin with houses, with other names, ascending again."""
    return tuple(sorted(called(value, names)))


def family_called(value, names):
    return tuple(sorted(set_called(lot, names) for lot in value))


def net_called(net, names):
    return renamed(net, *[(house, names[house]) for house in net[0]])


def drawn_settings(seed, many):
    rng = random.Random(seed)
    found = []
    for _ in range(many):
        net = drawn_net(rng, tuple("abcd"[:rng.randint(2, 4)]), 3)
        fall = tuple(house for house in net[0] if rng.random() < 0.4)
        found.append((net, drawn_quorums(rng, net[0]), rng.choice(PROTOCOLS), rng.choice(net[0]), fall))
    return found


SETTINGS = [ALONE, BOTH, HEARD, LATE, LIED, SMALL_SETTING, (ABC, PAIRS, FREE, "a", ("a",)), (MEEK, plain_quorums(MEEK), READY, "b", ("a",))] + drawn_settings(341, 40)


def prices_of(net):
    return tuple(tuple(1 + (len(lot) + k) % 3 for k, lot in enumerate(family)) for family in net[1])


def told_of_nets(net, quorums, fall):
    """What is told of a net, its quorums and a fall, as far as it is one value alone."""
    houses = net[0]
    yield [has_cover(net), first_cover(net), list(all_covers(net)), clashing(net), greatest_kept(net), common_fears(net), list(all_falls(net))]
    yield [[lots_of(net, house), reckons(net, house, fall), feared_by(net, fall), rest_of(net, fall)] for house in houses]
    yield [both_reckon(net, house, other) for house in houses for other in houses]
    yield [are_available(net, quorums), missed_lot(net, quorums), agree(net, quorums), torn_pair(net, quorums), fits(net, quorums)]
    yield [[kernels_of(net, quorums, house), good_falls(net, quorums, house), state_in(net, fall, house)] for house in houses]
    yield [wise_in(net, fall), naive_in(net, fall), greatest_guild(net, quorums, fall), outcome(plain_quorums, net)]
    yield [least_price(net, prices_of(net)), least_strikes(net, prices_of(net))]
    yield [[with_lot(net, house, fall), without_lot(net, house, lots_of(net, house)[0]), kept_to(net, (house,))] for house in houses]


def told_of_settings(setting):
    """What is told of a setting, as far as it is one value alone."""
    houses = runs.left_houses(setting)
    run = calm_run(setting, "v")
    yield [run, calm_run(setting, "w"), list(possible_sayings(setting, ())), once_places(setting), used_places(setting, run), lets_run(setting, run)]
    yield [takers(setting, run, "v"), sure_sayings(setting, ()), sure_sayings(setting, run), all_sayable(setting, "v"), all_sayable(setting, "w")]
    yield [[can_part(setting, house, other), can_leave(setting, house, other)] for house in houses for other in houses]
    yield [hears_sender(setting, house) for house in houses]
    yield safe_pairs(*setting[:4])
    house, other = setting[0][0][0], setting[0][0][-1]
    yield [parting_falls(*setting[:4], house, other), leaving_falls(*setting[:4], house, other), hearing_falls(*setting[:4], house)]


class NamesTest(unittest.TestCase):
    def test_names_in_the_same_order(self):
        # Then all is the same, renamed; each paper, renamed, is one of the net that is renamed.
        for setting in SETTINGS:
            net, quorums, _, _, fall = setting
            other = called(setting, RISING)
            self.assertEqual(called(list(told_of_nets(net, quorums, fall)), RISING), list(told_of_nets(*other[:2], other[4])))
            self.assertEqual(called(list(told_of_settings(setting)), RISING), list(told_of_settings(other)))

    def test_papers_with_other_names(self):
        for setting in SETTINGS:
            net, quorums, protocol, sender, fall = setting
            parts, other = setting[:4], called(setting, RISING)
            self.assertEqual(lets_either(other[0], called(fit_paper(net), RISING)), fit_paper(net)[0])
            self.assertEqual(lets_guild(*other[:2], other[4], called(guild_paper(net, quorums, fall), RISING)), len(greatest_guild(net, quorums, fall)))
            self.assertEqual(lets_strikes(other[0], prices_of(net), called(strike_paper(net, prices_of(net)), RISING)), least_price(net, prices_of(net)))
            for house in net[0]:
                self.assertEqual(lets_good(*other[:2], RISING[house], called(good_paper(net, quorums, house), RISING)), len(good_falls(net, quorums, house)))
            for one, two in itertools.product(runs.left_houses(setting), repeat=2):
                for write, judge in ((part_paper, lets_part), (leave_paper, lets_leave)):
                    paper = write(setting, one, two)
                    self.assertEqual(judge(other, RISING[one], RISING[two], called(paper, RISING)), paper[0])
            for kind, least in (("parting", parting_falls), ("leaving", leaving_falls)):
                paper = falls_paper(*parts, kind, net[0][0], net[0][-1])
                self.assertEqual(lets_falls(*other[:4], called(paper, RISING)), called(least(*parts, net[0][0], net[0][-1]), RISING))

    def test_names_in_another_order(self):
        rng = random.Random(342)
        for setting in SETTINGS:
            net, quorums, protocol, sender, fall = setting
            news = rng.sample(["zz", "b", "a", "mno", "c", "d"], len(net[0]))
            names = dict(zip(net[0], news))
            turned = net_called(net, names)
            other = (turned, net_called((net[0], quorums), names)[1], protocol, names[sender], set_called(fall, names))
            self.judged_nets(net, quorums, fall, names, *other[:2], other[4])
            self.judged_settings(setting, other, names)

    def judged_nets(self, net, quorums, fall, names, net2, quorums2, fall2):
        self.assertEqual(has_cover(net), has_cover(net2))
        self.assertEqual(len(list(all_covers(net))), len(list(all_covers(net2))))
        self.assertEqual({frozenset(called(pair, names)) for pair in clashing(net)}, set(map(frozenset, clashing(net2))))
        self.assertEqual(family_called(greatest_kept(net), names), greatest_kept(net2))
        self.assertEqual(family_called(common_fears(net), names), common_fears(net2))
        for test in (are_available, agree, fits):
            self.assertEqual(test(net, quorums), test(net2, quorums2))
        for family in (kernels_of, good_falls):
            self.assertEqual({names[house]: family_called(family(net, quorums, house), names) for house in net[0]}, {house: family(net2, quorums2, house) for house in net2[0]})
        for some in (wise_in, naive_in, feared_by, rest_of):
            self.assertEqual(set_called(some(net, fall), names), some(net2, fall2))
        self.assertEqual(set_called(greatest_guild(net, quorums, fall), names), greatest_guild(net2, quorums2, fall2))
        table = {(names[house], set_called(lot, names)): price for house, family, row in zip(*net, prices_of(net)) for lot, price in zip(family, row)}
        prices = tuple(tuple(table[house, lot] for lot in family) for house, family in zip(*net2))
        self.assertEqual(least_price(net, prices_of(net)), least_price(net2, prices))

    def judged_settings(self, one, two, names):
        for value in "vw":
            self.assertEqual(set_called(all_sayable(one, value), names), all_sayable(two, value))
            self.assertEqual(set_called(takers(one, calm_run(one, value), value), names), takers(two, calm_run(two, value), value))
        self.assertEqual(set_called(sure_sayings(one, ()), names), sure_sayings(two, ()))
        self.assertEqual(set_called(list(possible_sayings(one, ())), names), tuple(possible_sayings(two, ())))
        self.assertEqual(set_called(once_places(one), names), once_places(two))
        for house, other in itertools.product(runs.left_houses(one), repeat=2):
            for test in (can_part, can_leave):
                self.assertEqual(test(one, house, other), test(two, names[house], names[other]))
            self.assertEqual(hears_sender(one, house), hears_sender(two, names[house]))
        self.assertEqual({frozenset(called(pair, names)) for pair in safe_pairs(*one[:4])}, set(map(frozenset, safe_pairs(*two[:4]))))
        for house, other in itertools.product(one[0][0], repeat=2):
            for least in (parting_falls, leaving_falls):
                self.assertEqual(family_called(least(*one[:4], house, other), names), least(*two[:4], names[house], names[other]))
            self.assertEqual(family_called(hearing_falls(*one[:4], house), names), hearing_falls(*two[:4], names[house]))


class ObjectsTest(unittest.TestCase):
    def test_nets(self):
        for net, _, _, _, lot in SETTINGS:
            for one in [Net.of(net), Net.read(net_text(net))] + ([Alike(net[0], net[1][0])] if len(set(net[1])) == 1 else []):
                self.assertTrue(same([one.pair_now, str(one), list(one), len(one)], [net, net_text(net), list(net[0]), len(net[0])]))
                for house, other in itertools.product(net[0], repeat=2):
                    self.assertTrue(same([one[house], one(house, other)], [lots_of(net, house), both_reckon(net, house, other)]))
                    self.assertTrue(same([(one + (house, lot)).pair_now, (one - (house, one[house][0])).pair_now], [with_lot(net, house, lot), without_lot(net, house, one[house][0])]))
                    self.assertTrue(same([(one & (house,)).pair_now, one.renamed((house, "x")).pair_now], [kept_to(net, (house,)), renamed(net, (house, "x"))]))
                    self.assertIs(lot in Lots(*one[house]), reckons(net, house, lot))
                    self.assertTrue(same((Lots(*one[house]) & Lots(*one[other])).lots_now, both_reckon(net, house, other)))
                    self.assertIn(f"{house} = {Lots(*one[house])}", str(one).split("\n"))
                self.assertTrue(same(Shut(net[0]).pair_now, (net[0], (((),),) * len(net[0]))))
                self.assertIs(has_cover(Shut(net[0]).pair_now), False)
                self.assertEqual(str(Lots(lot)), lot_text(lot))

    def test_standings(self):
        for net, quorums, _, _, fall in SETTINGS:
            some = [Standing(net, quorums)] + ([Plain(net)] if outcome(plain_quorums, net)[0] == "returns" else [])
            for one in some:
                for house in fall:
                    one.fell(house)
                found = [one.fall_now, one.guild_now, one.states_now, one.tried(())]
                wanted = [fall, greatest_guild(net, one.quorums_now, fall), tuple(state_in(net, fall, house) for house in net[0]), greatest_guild(net, one.quorums_now, ())]
                self.assertTrue(same(found, wanted))
                self.assertEqual([house for house in net[0] if house in one], list(one.guild_now))

    def test_courses_and_benches(self):
        # Both lead one and the same run, the bench with the falls ahead of it.
        rng = random.Random(343)
        for setting in SETTINGS:
            parts, fall = setting[:4], setting[4]
            bench = Fallen(*parts, *fall) if fall else Bench(*parts)
            desk = Desk()
            desk.say("\n".join(log_lines(bench.log()[:1])))
            for house in fall:
                desk.say(f"fall {house}")
            course, warned = Course(*setting), Warned(*setting)
            for _ in range(8):
                run = course.run
                some = list(possible_sayings(setting, run))
                self.assertTrue(same([course.sayable(), warned.sayable(), list(bench.possible())], [some] * 3))
                self.assertTrue(same([bench.setting_now, bench.run_now, course.setting, warned.run], [setting, run, setting, run]))
                self.assertEqual([desk.say("run"), desk.say("possible")], [run_text(run).replace("\n", " / "), run_text(tuple(some)).replace("\n", " / ")])
                self.assertEqual([desk.say("verdict"), desk.say("houses"), desk.say("events")], [bench.verdict, lot_text(fall), str(len(bench))])
                took = [takers(setting, run, value) for value in "vw"]
                self.assertEqual([course.taken("v"), course.taken("w")], took)
                self.assertEqual(bench.verdict == "parted", bool(took[0] and took[1]))
                for saying in runs.all_sayings(setting)[::3]:
                    can = can_say(setting, run, saying)
                    self.assertEqual(can, bench.barred(("say",) + saying) is None)
                    self.assertEqual(can, desk.say("bars say " + saying_text(saying)) == "-")
                    self.assertEqual(outcome(course.tried, saying)[0] == "returns", can)
                if not some:
                    break
                saying = rng.choice(some)
                new = bench.say(*saying)
                self.assertEqual(desk.say("say " + saying_text(saying)), " / ".join(map(saying_text, new)) or "-")
                self.assertEqual([course.say(*saying), warned.say(*saying)[0]], [saying, saying])
                self.assertTrue(same(new, tuple(one for one in course.sayable() if one not in some)))

    def test_asking_changes_nothing(self):
        bench, course, standing, desk = Fallen(*LIED[:4], "d"), Warned(*LIED), Plain(FOUR), Desk()
        bench.say("a", "echo", "v")
        course.say("a", "echo", "v")
        standing.fell("a")
        desk.say("\n".join(log_lines(bench.log()[:1])))
        desk.say("fall a")
        before = [bench.log(), bench.tally(), bench.run_now, course.run, list(standing), standing.fall_now, desk.say("events"), desk.say("houses")]
        for ask in [lambda: bench.tried(("fall", "a")), lambda: bench.barred(("fall", "a")), lambda: list(bench.possible()), lambda: bench["a"], lambda: bench == course, lambda: str(bench),
                    lambda: course.tried(("b", "echo", "v")), course.sayable, course.blocked, lambda: course.taken("v"), lambda: standing.tried(("b",)), lambda: "a" in standing, lambda: list(course),
                    lambda: desk.say("bars fall b"), lambda: desk.say("run"), desk.counts, lambda: len(standing), lambda: standing.states_now, lambda: bench.verdict]:
            ask()
            self.assertTrue(same([bench.log(), bench.tally(), bench.run_now, course.run, list(standing), standing.fall_now, desk.say("events"), desk.say("houses")], before))

    def test_equal_are_only_those_of_a_kind(self):
        families = [[Net.of(FOUR), Alike(FOUR[0], FOUR[1][0])], [Lots(("a",)), Lots(("a",), ())], [Plain(FOUR), Standing(FOUR, THREES)], [Course(*LIED), Warned(*LIED)],
                    [Bench(*LIED[:4]), Bench(*LIED[:4])], [Net.of(OWN)], [Lots()], [Plain(TWO)], [Course(*ALONE), Warned(*ALONE)], [Fallen(*LIED[:4], "a")], [FOUR, Net.of(FOUR).pair_now],
                    [LIED], [()], [None]]
        for k, h in itertools.product(range(len(families)), repeat=2):
            for one, other in itertools.product(families[k], families[h]):
                self.assertIs(one == other, k == h)
                self.assertIs(one != other, k != h)

    def test_the_document_at_large(self):
        # (G1): fitting quorums are there exactly without a cover, and exactly then the least price is 0; (G2) and (G4) for the plain ones.
        for net in [FOUR, MEEK, OWN, TWO, ABC] + [setting[0] for setting in SETTINGS]:
            free = not has_cover(net)
            self.assertEqual([fit_paper(net)[0] == "fits", clashing(net) == (), greatest_kept(net) == (net[0],), least_price(net, prices_of(net)) == 0], [free] * 4)
            if free:
                quorums = plain_quorums(net)
                self.assertIs(fits(net, quorums), True)
                for fall in all_falls(net):
                    for house, other in itertools.product(wise_in(net, fall), repeat=2):
                        for one, two in itertools.product(lots_of((net[0], quorums), house), lots_of((net[0], quorums), other)):
                            self.assertTrue(set(one) & set(two) - set(fall))
        self.assertTrue(plain.are_quorums(ABC, ABC_QUORUMS))


if __name__ == "__main__":
    unittest.main()
