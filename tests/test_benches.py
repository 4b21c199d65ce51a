"""[63], [64], [65], [66], [67]: benches, and benches behind logs."""

import itertools
import random
import types
import unittest

from ownfears.benches import Bench, Fallen
from ownfears.benchlogs import is_log, replayed
from ownfears.benchtexts import event_line
from ownfears.netclasses import Lots, Net
from ownfears.runs import lets_run
from tests import plainbenches as model
from tests import plainruns as runs
from tests import plainwords as plain
from tests.anyvalues import EVERY_KIND, double_mutants, mutants
from tests.sameness import outcome, same
from tests.smallnets import FOUR, LONE, MEEK, NAMED, OWN
from tests.smallsettings import ABC, ABC_QUORUMS, MEEK_QUORUMS, MIXED, NEVER, PAIRS, READY, SENT, SHORT, THREES, drawn_settings
from tests.test_benchlines import LOGS, drawn_logs

FREE = (("x", False, ((("sender",),),)), ("take", False, ((("one", "x"), ("self", "x")),)))
HEADS = [("bench",) + parts for parts in [
    (FOUR, THREES, SENT, "a"), (FOUR, THREES, READY, "d"), (ABC, PAIRS, FREE, "a"), (ABC, ABC_QUORUMS, MIXED, "c"), (ABC, PAIRS, NEVER, "b"),
    (LONE, ((("a",),),), SHORT, "a"), (MEEK, MEEK_QUORUMS, READY, "b"), (NAMED, ((("ab", "b"), ("abc",)),) * 4, MIXED, "zzzzzzzz"),
]]
SAY, FALL = ("say", "b", "echo", "v"), ("fall", "c")


class Derived(Bench):
    """A derived class without anything of its own."""


class DerivedFallen(Fallen):
    """One that is derived from Fallen."""


def made(head):
    return Bench(*head[1:])


def forms(head, spare=()):
    """All events by form for a bench, and some that are none."""
    events = [("fall", house) for house in head[1][0]]
    events += [("say", house, stage[0], value) for house in head[1][0] for stage in head[3] for value in "vw"]
    return events + list(spare)


SPARE = [None, (), "fall a", ("fall", "x"), ("fall",), ["fall", "a"], ("say", "a", "take"), ("say", "a", "x", "v"), ("say", "a", "take", "x"), ("fall", "a", "b"), ("fell", "a")]


class BenchCase(unittest.TestCase):
    def like(self, bench, log):
        """Check that the bench is as the model says of its log."""
        setting, run = model.setting_of(log), model.run_of(log)
        self.assertTrue(same(bench.log(), log))
        self.assertTrue(same([bench.net, bench.quorums, bench.protocol, bench.sender], list(log[0][1:])))
        self.assertTrue(same([bench.fall_now, bench.run_now, bench.setting_now], [setting[4], run, setting]))
        self.assertEqual(bench.verdict, model.verdict(log))
        self.assertTrue(same(list(bench.possible()), model.possible(log)))
        self.assertTrue(same(len(bench), len(log) - 1))
        self.assertEqual(str(bench), " / ".join(" ".join(event) for event in log[1:]) or "-")
        for house in setting[0][0]:
            self.assertTrue(same(bench[house], tuple(one for one in run if one[0] == house)))
        for one in runs.all_sayings(setting):
            self.assertIs(one in bench, one in run)
        self.assertEqual(lets_run(bench.setting_now, bench.run_now), len(run))

    def refused(self, bench, call, event, reason):
        self.assertTrue(same(outcome(call), ("InvalidEvent", event, reason)), (event, reason, outcome(call)))


class EventsTest(BenchCase):
    def test_of_the_document(self):
        bench = Bench(FOUR, THREES, SENT, "a")
        self.assertEqual([bench.say("b", "echo", "v"), bench.fell("a"), bench.barred(("say", "b", "echo", "w"))], [(), (), "once"])
        self.assertEqual(bench.say("c", "echo", "v"), (("b", "take", "v"), ("c", "take", "v"), ("d", "take", "v")))
        self.assertEqual(bench.tally(), (3, 3))

    def test_drawn_events(self):
        rng = random.Random(271)
        for head in HEADS + [("bench",) + one[:4] for one in drawn_settings(272, 60, 4, 3, 99)]:
            bench, log, many = made(head), (head,), 0
            self.like(bench, log)
            for _ in range(25):
                kind = rng.randrange(8)
                event = rng.choice(forms(head, SPARE))
                if rng.random() < 0.6 and model.possible(log):
                    event = ("say",) + rng.choice(model.possible(log))
                reason = model.reason(log, event)
                self.assertEqual(bench.barred(event), reason)
                if kind == 0:
                    found = outcome(bench.undo)
                    wanted = ("returns", log[-1]) if log[1:] else ("NothingToUndo", 0)
                    log = log[:max(1, len(log) - 1)]
                else:
                    call = bench.go if kind < 4 else bench
                    if type(event) is tuple and len(event) == 4 and kind < 3:
                        call = lambda event: bench.say(*event[1:])
                        reason = reason if event[0] == "say" else "shape"
                    wanted = ("InvalidEvent", event, reason) if reason else ("returns", model.answer(log, event))
                    found = outcome(call, event)
                    log = log if reason else log + (event,)
                many += 1
                self.assertTrue(same(found, wanted), (log, event, found, wanted))
                self.assertEqual(bench.tally(), (many, many))
                self.like(bench, log)
                self.assertTrue(bench == replayed(log))

    def test_each_way_to_apply_an_event(self):
        for event, call in [(SAY, lambda bench: bench.say("b", "echo", "v")), (SAY, lambda bench: bench.say(value="v", stage="echo", house="b")), (SAY, lambda bench: bench.go(SAY)),
                            (SAY, lambda bench: bench.go(event=SAY)), (SAY, lambda bench: bench(SAY)), (SAY, lambda bench: bench(event=SAY)), (FALL, lambda bench: bench.fell("c")),
                            (FALL, lambda bench: bench.fell(house="c")), (FALL, lambda bench: bench.go(FALL)), (FALL, lambda bench: bench(FALL))]:
            bench = made(HEADS[0])
            self.assertEqual(call(bench), model.answer((HEADS[0],), event))
            self.like(bench, (HEADS[0], event))
            self.assertEqual(bench.tally(), (1, 1))

    def test_each_reason(self):
        bench = made(HEADS[0])
        for event in [SAY, ("say", "c", "echo", "v"), FALL]:
            bench.go(event)
        log = bench.log()
        for event, reason in [
            (None, "shape"), (("fall", "x"), "shape"), (("say", "b", "x", "v"), "shape"), (("say", "x", "echo", "v"), "shape"), (["fall", "a"], "shape"), (("fall", "c"), "fallen"),
            (("say", "c", "take", "v"), "fallen"), (("say", "c", "echo", "v"), "fallen"), (SAY, "said"), (("say", "b", "echo", "w"), "once"), (("say", "d", "echo", "w"), "ways"),
            (("say", "b", "take", "w"), "ways"), (("say", "a", "take", "v"), "ways"), (("say", "d", "echo", "v"), None), (("fall", "b"), None),
        ]:
            self.assertEqual(bench.barred(event), reason, event)
            if reason is not None:
                for call in (lambda: bench.go(event), lambda: bench(event), lambda: bench.tried(event)):
                    self.refused(bench, call, event, reason)
        self.assertTrue(same(outcome(bench.say, None, ["x"], 1), ("InvalidEvent", ("say", None, ["x"], 1), "shape")))
        self.assertTrue(same(outcome(bench.fell, ("c",)), ("InvalidEvent", ("fall", ("c",)), "shape")))
        self.like(bench, log)

    def test_two_reasons_at_once(self):
        # Said comes ahead of once and ways, once ahead of ways, fallen ahead of all these, full ahead of fallen, shape ahead of full.
        bench = Bench(ABC, PAIRS, FREE, "a")
        for event in [("fall", "a"), ("say", "b", "x", "v"), ("say", "b", "x", "w")]:
            bench.go(event)
        self.assertEqual(bench.barred(("say", "b", "x", "v")), "said")
        bench = Bench(ABC, PAIRS, (("x", True, ((("sender",),),)), ("take", True, ((("self", "x"), ("one", "x")),))), "a")
        for event in [("fall", "a"), ("say", "b", "x", "v"), ("say", "b", "take", "v")]:
            bench.go(event)
        self.assertEqual(bench.barred(("say", "b", "take", "w")), "once")
        self.assertEqual(bench.barred(("say", "b", "take", "v")), "said")
        self.assertEqual(bench.barred(("say", "a", "take", "w")), "fallen")
        full = replayed(forty_log())
        for event, reason in [(("fall", "x"), "shape"), (None, "shape"), (("fall", "f"), "full"), (("say", "f", "a", "v"), "full"), (("say", "a", "a", "v"), "full"), (("fall", "a"), "full")]:
            self.assertEqual(full.barred(event), reason)
            self.refused(full, lambda: full.go(event), event, reason)

    def test_a_house_that_falls_behind_its_own_sayings(self):
        bench = made(HEADS[0])
        for event in [SAY, ("say", "c", "echo", "v"), ("say", "a", "echo", "v"), ("say", "c", "take", "v")]:
            bench.go(event)
        self.assertEqual(bench.verdict, "going")
        before = bench.run_now
        self.assertEqual(bench.fell("c"), (("c", "echo", "v"), ("c", "take", "v")))
        self.assertEqual([bench.run_now, bench.fall_now, bench["c"]], [(SAY[1:], ("a", "echo", "v")), ("c",), ()])
        self.assertEqual(bench.barred(("say", "b", "take", "v")), None)
        self.assertEqual(bench.undo(), ("fall", "c"))
        self.assertTrue(same([bench.run_now, bench.fall_now], [before, ()]))
        self.assertEqual(bench["c"], (("c", "echo", "v"), ("c", "take", "v")))

    def test_undo(self):
        rng = random.Random(273)
        for head in HEADS:
            bench, log = made(head), (head,)
            for _ in range(12):
                some = [event for event in forms(head) if model.reason(log, event) is None]
                if some:
                    log += (rng.choice(some),)
                    bench.go(log[-1])
            while log[1:]:
                self.assertTrue(same(bench.undo(), log[-1]))
                log = log[:-1]
                self.like(bench, log)
                self.assertTrue(bench == replayed(log))
            self.assertTrue(same(outcome(bench.undo), ("NothingToUndo", 0)))
            self.assertTrue(bench == made(head))
            self.like(bench, log)


def forty_log():
    """A log of 40 events that are not refused."""
    houses = tuple("abcdef")
    protocol = tuple((name, False, ((("sender",),),)) for name in "abcd")
    head = ("bench", (houses, (((),),) * 6), ((houses,),) * 6, protocol, "a")
    events = [("say", house, stage, value) for house in "abcdef" for stage in "abcd" for value in "vw"]
    return (head, ("fall", "a")) + tuple(event for event in events if event[1] != "a")[:39]


class DoAllTest(BenchCase):
    EVENTS = (SAY, ("say", "c", "echo", "v"), FALL, ("say", "b", "take", "v"))

    def test_all_go(self):
        for keep in ((), (False,), (True,)):
            bench = made(HEADS[0])
            more = {"keep": keep[0]} if keep else {}
            answers, log = [], (HEADS[0],)
            for event in self.EVENTS[:3]:
                answers.append(model.answer(log, event))
                log += (event,)
            self.assertTrue(same(bench.do_all(*self.EVENTS[:3], **more), tuple(answers)))
            self.like(bench, log)
            self.assertEqual(bench.tally(), (1, 1))
            self.assertTrue(same(bench.do_all(**more), ()))
            self.assertEqual(bench.tally(), (2, 2))
            self.assertEqual(bench.undo(), FALL)
            self.like(bench, log[:-1])

    def test_refused_at_each_place(self):
        for wrong in [None, ("fall", "x"), SAY, ("say", "d", "take", "v"), ("say", "b", "echo", "w")]:
            for k in range(4):
                events = self.EVENTS[:3][:k] + (wrong,) + self.EVENTS[:3][k:]
                log, done = (HEADS[0], ("say", "d", "echo", "v")), 0
                for event in events:
                    if model.reason(log, event):
                        break
                    log, done = log + (event,), done + 1
                if done == len(events):
                    continue
                for more in ({}, {"keep": False}, {"keep": True}):
                    bench = made(HEADS[0])
                    bench.say("d", "echo", "v")
                    self.assertTrue(same(outcome(bench.do_all, *events, **more), ("Broken", done)))
                    kept = log if more.get("keep") else log[:2]
                    self.like(bench, kept)
                    self.assertTrue(bench == replayed(kept))
                    self.assertEqual(bench.tally(), (2, 2))

    def test_keep_is_asked_first(self):
        bench = made(HEADS[0])
        for k, keep in enumerate([None, 0, 1, "", "keep", (), [], (True,)]):
            self.assertTrue(same(outcome(bench.do_all, SAY, keep=keep), ("NotUsable", "keep", -1)))
            self.assertTrue(same(outcome(bench.do_all, None, keep=keep), ("NotUsable", "keep", -1)))
            self.assertTrue(same(outcome(bench.do_all, keep=keep), ("NotUsable", "keep", -1)))
            self.assertEqual(bench.tally(), (3 * k + 3, 3 * k + 3))
        self.like(bench, (HEADS[0],))

    def test_more_than_forty(self):
        log = forty_log()
        for keep in (False, True):
            bench = made(log[0])
            self.assertTrue(same(outcome(bench.do_all, *log[1:], ("fall", "f"), keep=keep), ("Broken", 40)))
            self.assertEqual(len(bench), 40 if keep else 0)
        bench = made(log[0])
        self.assertEqual(len(bench.do_all(*log[1:])), 40)
        self.assertEqual(len(bench), 40)


class AskingTest(BenchCase):
    def test_tried(self):
        rng = random.Random(274)
        for head in HEADS:
            for _ in range(12):
                log = (head,)
                bench = made(head)
                for _ in range(rng.randint(0, 4)):
                    some = [event for event in forms(head) if model.reason(log, event) is None]
                    if some:
                        log += (rng.choice(some),)
                        bench.go(log[-1])
                events, behind, wanted = [], log, None
                for _ in range(rng.randint(0, 4)):
                    some = [event for event in forms(head) if model.reason(behind, event) is None]
                    event = rng.choice(some) if some and rng.random() < 0.8 else rng.choice(forms(head, SPARE))
                    events.append(event)
                    if wanted is None and model.reason(behind, event):
                        wanted = ("InvalidEvent", event, model.reason(behind, event))
                    behind += (event,) if wanted is None else ()
                wanted = wanted or ("returns", (model.fall_of(behind), model.run_of(behind), model.verdict(behind)))
                tally = bench.tally()
                self.assertTrue(same(outcome(bench.tried, *events), wanted), (log, events))
                self.like(bench, log)
                self.assertEqual(bench.tally(), tally)

    def test_tried_edges(self):
        bench = made(HEADS[0])
        self.assertTrue(same(bench.tried(), ((), (), "going")))
        self.assertTrue(same(bench.tried(FALL, SAY), (("c",), (SAY[1:],), "going")))
        self.refused(bench, lambda: bench.tried(FALL, FALL), FALL, "fallen")
        log = forty_log()
        bench = replayed(log[:39])
        self.assertEqual(len(bench.tried(*log[39:])[1]), 39)
        self.refused(bench, lambda: bench.tried(*log[39:], ("fall", "f")), ("fall", "f"), "full")
        self.refused(bench, lambda: bench.tried(*log[39:], ("fall", "x")), ("fall", "x"), "shape")
        self.assertEqual(bench.tally(), (0, 0))

    def test_barred_of_any_value(self):
        bench = made(HEADS[0])
        for thing in EVERY_KIND + [Net.of(OWN), Lots(), ("fall", Lots()), bench]:
            self.assertEqual(bench.barred(thing), "shape")
            self.assertEqual(bench.barred(event=thing), "shape")
        for event in forms(HEADS[0]):
            for thing in mutants(event):
                self.assertEqual(bench.barred(thing), model.reason((HEADS[0],), thing))
        self.like(bench, (HEADS[0],))
        self.assertEqual(bench.tally(), (0, 0))

    def test_verdicts(self):
        bench = Bench(ABC, PAIRS, SHORT, "a")
        self.assertEqual(bench.verdict, "going")
        for house in "abc":
            bench.say(house, "take", "v")
        self.assertEqual(bench.verdict, "taken")
        # All houses have fallen; all but one.
        for house in "abc":
            bench.fell(house)
            self.assertEqual(bench.verdict, "taken")
        self.assertEqual(Fallen(ABC, PAIRS, NEVER, "a", "a", "c", "b").verdict, "taken")
        self.assertEqual(Fallen(ABC, PAIRS, NEVER, "a", "a", "c").verdict, "stuck")
        bench = Bench(ABC, PAIRS, SHORT, "a")
        bench.do_all(("fall", "a"), ("say", "b", "take", "v"))
        self.assertEqual(bench.verdict, "going")
        bench.say("c", "take", "w")
        self.assertEqual(bench.verdict, "parted")
        bench.fell("c")
        self.assertEqual(bench.verdict, "taken")
        # Both values by one house; parted comes ahead of taken; stuck where nothing can be said.
        bench = Bench(ABC, PAIRS, (("take", False, ((("sender",),),)),), "a")
        bench.do_all(("fall", "a"), ("say", "b", "take", "v"), ("say", "b", "take", "w"))
        self.assertEqual(bench.verdict, "parted")
        self.assertEqual(made(HEADS[4]).verdict, "stuck")
        bench = Bench(ABC, ((("a", "b"),),) * 3, SENT, "c")
        bench.do_all(("fall", "c"), ("say", "a", "echo", "v"), ("say", "b", "echo", "w"))
        self.assertEqual(bench.verdict, "stuck")

    def test_possible(self):
        bench = made(HEADS[0])
        rows = bench.possible()
        self.assertIsInstance(rows, types.GeneratorType)
        self.assertEqual(list(rows), [(house, "echo", "v") for house in "abcd"])
        self.assertEqual([one for one in bench.possible() for _ in bench.possible()], [(house, "echo", "v") for house in "abcd" for _ in range(4)])
        self.assertEqual(bench.tally(), (0, 0))

    def test_items_and_members(self):
        bench = made(HEADS[0])
        bench.do_all(SAY, FALL)
        self.assertEqual([bench["b"], bench["c"], bench["d"]], [(SAY[1:],), (), ()])
        for wrong in EVERY_KIND + [Lots(), bench]:
            if not (isinstance(wrong, str) and wrong in "abcd" and len(wrong) == 1):
                self.assertTrue(same(outcome(lambda: bench[wrong]), ("NotUsable", "house", -1)), wrong)
            self.assertIs(wrong in bench, False)
        self.assertIs(SAY[1:] in bench, True)
        for thing in mutants(SAY[1:]):
            self.assertIs(thing in bench, thing == SAY[1:] and type(thing) is tuple)
        self.assertIs(SAY in bench, False)

    def test_it_has_no_iteration(self):
        for bench in (made(HEADS[0]), Fallen(*HEADS[0][1:], "a")):
            with self.assertRaises(TypeError):
                iter(bench)
            with self.assertRaises(TypeError):
                list(bench)

    def test_equal(self):
        bench = made(HEADS[0])
        self.assertIs(bench == made(HEADS[0]), True)
        self.assertIs(bench == Derived(*HEADS[0][1:]), True)
        self.assertIs(Derived(*HEADS[0][1:]) == bench, True)
        self.assertIs(bench == made(HEADS[1]), False)
        self.assertIs(bench == Bench(FOUR, THREES, SENT, "b"), False)
        for one, other in [(Fallen, Bench), (DerivedFallen, Fallen), (Derived, DerivedFallen)]:
            two = [kind(*HEADS[0][1:], *(("c", "a") if issubclass(kind, Fallen) else ())) for kind in (one, other)]
            for row in two:
                if not isinstance(row, Fallen):
                    row.do_all(("fall", "c"), ("fall", "a"))
            self.assertIs(two[0] == two[1], True)
            self.assertIs(two[1] != two[0], False)
        # Unlike logs with one and the same fall and run.
        first, second = Fallen(*HEADS[0][1:], "a", "c"), Fallen(*HEADS[0][1:], "c", "a")
        self.assertEqual([first.fall_now, first.run_now], [second.fall_now, second.run_now])
        self.assertIs(first == second, False)
        self.assertIs(first != second, True)
        # What was started does not matter.
        outcome(bench.undo)
        self.assertIs(bench == made(HEADS[0]), True)
        for thing in EVERY_KIND + [(HEADS[0],), Net.of(FOUR), Lots()]:
            self.assertIs(bench == thing, False)
            self.assertIs(thing == bench, False)

    def test_tally(self):
        bench = made(HEADS[0])
        calls = [lambda: bench.say("b", "echo", "v"), lambda: bench.say("b", "echo", "v"), lambda: bench.fell("c"), lambda: bench.fell(None), lambda: bench.go(None), lambda: bench.go(("fall", "d")),
                 lambda: bench(FALL), lambda: bench(("fall", "a")), bench.undo, bench.undo, lambda: bench.do_all(SAY, SAY, SAY), lambda: bench.do_all(keep=None), lambda: bench.do_all(None, keep=True), bench.do_all]
        for k, call in enumerate(calls):
            outcome(call)
            self.assertTrue(same(bench.tally(), (k + 1, k + 1)))
        self.assertEqual(len(bench), 2)
        tally = bench.tally()
        for call in (bench.log, bench.possible, bench.tally, lambda: bench.barred(SAY), bench.tried, lambda: bench.verdict, lambda: bench["a"], lambda: str(bench), lambda: len(bench), lambda: bench == bench):
            call()
            self.assertEqual(bench.tally(), tally)
        for _ in range(4):
            outcome(bench.undo)
        self.assertEqual(bench.tally(), (len(calls) + 4, len(calls) + 4))

    def test_made(self):
        self.assertEqual(Bench.MOST, 40)
        bench = Bench(sender="a", protocol=SENT, quorums=THREES, net=FOUR)
        self.like(bench, (HEADS[0],))
        self.assertEqual(bench.tally(), (0, 0))
        for name in ("net", "quorums", "protocol", "sender", "fall_now", "run_now", "setting_now", "verdict"):
            with self.assertRaises(AttributeError):
                setattr(bench, name, FOUR)

    def test_one_does_not_change_another(self):
        one, other = made(HEADS[0]), made(HEADS[0])
        one.do_all(SAY, FALL)
        self.like(other, (HEADS[0],))
        self.assertEqual(other.tally(), (0, 0))
        log = one.log()
        one.undo()
        self.assertEqual(len(log), 3)

    def test_refused_in_order(self):
        good = [FOUR, THREES, SENT, "a"]
        wrong = [[(), OWN[0], list(FOUR)], [THREES[:3], None, ((),) * 4, ((("a",), ("a", "b")),) * 4], [(), SENT * 2, list(SENT)], ["e", ("a",), None]]
        words = ["net", "quorums", "protocol", "sender"]
        for k, h in itertools.combinations_with_replacement(range(4), 2):
            for one, two in itertools.product(wrong[k], wrong[h]):
                given = list(good)
                given[h] = two
                given[k] = one
                self.assertTrue(same(outcome(Bench, *given), ("NotUsable", words[k], -1)), given)
                self.assertTrue(same(outcome(Fallen, *given, "x"), ("NotUsable", words[k], -1)), given)


class FallenTest(BenchCase):
    def test_made(self):
        for houses in [("a",), ("d", "a"), ("a", "b", "c", "d"), ("c", "b", "d")]:
            bench = Fallen(*HEADS[0][1:], *houses)
            self.like(bench, (HEADS[0],) + tuple(("fall", house) for house in houses))
            self.assertEqual(bench.tally(), (0, 0))
            self.assertIsInstance(bench, Bench)
            self.assertEqual(bench.undo(), ("fall", houses[-1]))
            self.assertEqual(bench.tally(), (1, 1))
        bench = Fallen(*HEADS[0][1:], "c")
        self.assertEqual([bench.say("b", "echo", "v"), bench.barred(FALL), bench.undo(), bench.undo()], [(), "fallen", SAY, FALL])
        self.assertIs(bench == made(HEADS[0]), True)
        self.assertTrue(same(outcome(bench.undo), ("NothingToUndo", 0)))

    def test_refused(self):
        for houses in [(), ("a", "a"), ("e",), ("a", "e"), ("a", None), (("a",),), (["a"],), ("a", "b", "a"), (True,), ("",), (0, "a"), ("A",)]:
            self.assertTrue(same(outcome(Fallen, *HEADS[0][1:], *houses), ("NotUsable", "houses", -1)), houses)
        for wrong in EVERY_KIND:
            if not (isinstance(wrong, str) and wrong in "abcd" and len(wrong) == 1):
                self.assertTrue(same(outcome(Fallen, *HEADS[0][1:], "c", wrong), ("NotUsable", "houses", -1)), wrong)


class LogsTest(BenchCase):
    def test_is_log(self):
        rng = random.Random(275)
        for log in LOGS + drawn_logs(276, 30):
            self.assertIs(is_log(log), True)
            self.assertIs(is_log(thing=log), True)
            for thing in itertools.chain(mutants(log), double_mutants(log, rng, 100)):
                self.assertIs(is_log(thing), model.is_log(thing), thing)
        for thing in EVERY_KIND + [Net.of(OWN), (made(HEADS[0]),), made(HEADS[0]), HEADS[0], [HEADS[0]]]:
            self.assertIs(is_log(thing), False)
        # By form alone: events that would be refused, and more than 40.
        self.assertIs(is_log((HEADS[0], FALL, FALL)), True)
        self.assertIs(is_log((HEADS[0],) + (FALL,) * 50), True)

    def test_replayed(self):
        for log in LOGS + drawn_logs(277, 150):
            bad = next((k for k in range(1, len(log)) if model.reason(log[:k], log[k])), None)
            found = outcome(replayed, log)
            if bad is None:
                self.like(found[1], log)
                self.assertIs(type(found[1]), Bench)
                self.assertEqual(found[1].tally(), (0, 0))
            else:
                self.assertTrue(same(found, ("InvalidEvent", log[bad], model.reason(log[:bad], log[bad]))))

    def test_many_events(self):
        log = forty_log()
        bench = replayed(log=log)
        self.like(bench, log)
        self.assertEqual(bench.tally(), (0, 0))
        more = ("fall", "f")
        self.assertTrue(same(outcome(replayed, log + (more,)), ("InvalidEvent", more, "full")))
        self.assertTrue(same(outcome(replayed, log + (more, log[2])), ("InvalidEvent", more, "full")))
        self.assertTrue(same(outcome(replayed, log[:30] + (log[2],) + log[30:]), ("InvalidEvent", log[2], "said")))
        bench.undo()
        self.assertEqual(bench.barred(more), None)

    def test_behind_what_was_done(self):
        rng = random.Random(278)
        for head in HEADS:
            log = (head,)
            bench = made(head)
            for _ in range(10):
                some = [event for event in forms(head) if model.reason(log, event) is None]
                if some:
                    log += (rng.choice(some),)
                    bench.go(log[-1])
            self.assertTrue(same(replayed(bench.log()).log(), log))
            self.assertIs(replayed(bench.log()) == bench, True)
            self.assertEqual(str(bench), " / ".join(map(event_line, log[1:])) or "-")

    def test_no_logs(self):
        for thing in EVERY_KIND + [HEADS[0], [HEADS[0]], (HEADS[0], None), made(HEADS[0])]:
            self.assertTrue(same(outcome(replayed, thing), ("NotUsable", "log", -1)))
        for thing in mutants(LOGS[0]):
            if not model.is_log(thing):
                self.assertTrue(same(outcome(replayed, thing), ("NotUsable", "log", -1)))


if __name__ == "__main__":
    unittest.main()
