"""[54], [55], [56]: courses."""

import itertools
import random
import unittest

from ownfears.courses import Course, Warned
from ownfears.netclasses import Lots, Net
from ownfears.runs import calm_run, lets_run, takers
from ownfears.sayings import can_say, possible_sayings
from ownfears.sayingtexts import run_text
from tests import plainruns as runs
from tests import plainwords as plain
from tests.anyvalues import EVERY_KIND, mutants
from tests.sameness import outcome, same
from tests.smallnets import FOUR, OWN
from tests.smallsettings import ABC, BOTH, HEARD, LIED, MIXED, NEVER, PAIRS, SENT, SETTINGS, SHORT, SMALL_SETTING, THREES, drawn_settings
from tests.test_sayings import FREE, SELFISH, SMALL_ONES

SOME = SETTINGS + SMALL_ONES[-7:] + drawn_settings(331, 60, 4, 3, 99)


class Derived(Course):
    """A derived class without anything of its own."""


class DerivedWarned(Warned):
    """One that is derived from Warned."""


def blocked(setting, run):
    """The sayings that cannot be said behind the run by once alone."""
    return tuple(one for one in runs.all_sayings(setting)
                 if one not in run and runs.is_barred(setting, run, one) and runs.comes(setting, run, one, runs.holds))


class CourseTest(unittest.TestCase):
    def like(self, one, setting, run):
        """Check that the course is as this run says."""
        self.assertTrue(same([one.setting, one.run], [setting, run]))
        self.assertTrue(same(one.sayable(), runs.next_sayings(setting, run, ("v", "w"))))
        self.assertTrue(same(list(one), list(run)))
        self.assertTrue(same(len(one), len(run)))
        self.assertEqual(str(one), "\n".join(" ".join(saying) for saying in run) or "-")
        for value in "vw":
            self.assertTrue(same(one.taken(value), tuple(h for h in setting[0][0] if runs.taking(setting, h, value) in run)))
        for saying in runs.all_sayings(setting):
            self.assertIs(saying in one, saying in run)
        if isinstance(one, Warned):
            self.assertTrue(same(one.blocked(), blocked(setting, run)))
            self.assertFalse(set(one.blocked()) & set(one.sayable()))

    def test_drawn_courses(self):
        rng = random.Random(332)
        for setting in SOME:
            for kind in (Course, Warned, Derived, DerivedWarned):
                one, run = kind(*setting), ()
                self.like(one, setting, run)
                for _ in range(12):
                    some = runs.next_sayings(setting, run, ("v", "w"))
                    every = runs.all_sayings(setting)
                    if rng.random() < 0.2:
                        found, wanted = outcome(one.undo), ("returns", run[-1]) if run else ("NothingToUndo", 0)
                        run = run[:-1]
                    elif every:
                        saying = rng.choice(some if some and rng.random() < 0.7 else every)
                        found = outcome(one.say, *saying)
                        if saying in some:
                            more = tuple(x for x in blocked(setting, run + (saying,)) if x not in blocked(setting, run))
                            wanted = ("returns", (saying, more) if isinstance(one, Warned) else saying)
                            run += (saying,)
                        else:
                            wanted = ("NotUsable", "saying", -1)
                    else:
                        continue
                    self.assertTrue(same(found, wanted), (setting, run, found, wanted))
                    self.like(one, setting, run)
                self.assertEqual(lets_run(setting, one.run), len(run))

    def test_with_all_said_and_back_to_nothing(self):
        for setting in SOME:
            one, said = Warned(*setting), []
            while one.sayable():
                said.append(one.sayable()[-1])
                self.assertTrue(same(one.say(*said[-1])[0], said[-1]))
            self.assertEqual(one.run, tuple(said))
            while said:
                self.assertTrue(same(one.undo(), said.pop()))
            self.like(one, setting, ())
            self.assertTrue(same(outcome(one.undo), ("NothingToUndo", 0)))
            self.assertIs(one == Course(*setting), True)

    def test_it_tells_what_the_functions_tell(self):
        rng = random.Random(333)
        for setting in SOME:
            one = Course(*setting)
            while one.sayable() and len(one) < 8:
                one.say(*rng.choice(one.sayable()))
            self.assertEqual(one.sayable(), list(possible_sayings(setting, one.run)))
            self.assertEqual([one.taken(value) for value in "vw"], [takers(setting, one.run, value) for value in "vw"])
            self.assertEqual(str(one), run_text(one.run))
            for saying in runs.all_sayings(setting):
                self.assertEqual(outcome(one.tried, saying)[0] == "returns", can_say(setting, one.run, saying))

    def test_tried(self):
        rng = random.Random(334)
        for setting in SOME:
            for kind in (Course, Warned):
                one = kind(*setting)
                while one.sayable() and rng.random() < 0.7:
                    one.say(*rng.choice(one.sayable()))
                run, sayings, wanted = one.run, [], None
                for _ in range(rng.randint(0, 4)):
                    some = runs.next_sayings(setting, run, ("v", "w"))
                    every = runs.all_sayings(setting) + [None, ("a", "x", "v"), ["a", "echo", "v"]]
                    sayings.append(rng.choice(some if some and rng.random() < 0.8 else every))
                    if wanted is None and sayings[-1] not in some:
                        wanted = ("NotUsable", "saying", -1)
                    run += (sayings[-1],)
                before = one.run
                self.assertTrue(same(outcome(one.tried, *sayings), wanted or ("returns", run)), (setting, before, sayings))
                self.like(one, setting, before)
        self.assertEqual(Course(*HEARD).tried(), ())
        self.assertEqual(Course(*HEARD).tried(*calm_run(HEARD, "v")), calm_run(HEARD, "v"))

    def test_sayings_refused(self):
        for one in (Course(*LIED), Warned(*LIED)):
            one.say("a", "echo", "v")
            for saying in [("a", "echo", "v"), ("a", "echo", "w"), ("d", "echo", "v"), ("e", "echo", "v"), ("b", "x", "v"), ("b", "echo", "x"), ("b", "take", "v"), (None, "echo", "v"), ("b", ["echo"], "v"),
                           ("b", "echo", ("v",)), (("b",), "echo", "v"), ("b", "echo", True)]:
                self.assertTrue(same(outcome(one.say, *saying), ("NotUsable", "saying", -1)), saying)
                self.assertTrue(same(outcome(one.tried, saying), ("NotUsable", "saying", -1)), saying)
            for wrong in EVERY_KIND:
                for k in range(3):
                    saying = ("b", "echo", "v")[:k] + (wrong,) + ("b", "echo", "v")[k + 1:]
                    if not runs.is_saying(LIED, saying):
                        self.assertTrue(same(outcome(one.say, *saying), ("NotUsable", "saying", -1)), saying)
                self.assertTrue(same(outcome(one.tried, wrong), ("NotUsable", "saying", -1)), wrong)
                self.assertTrue(same(outcome(one.tried, ("b", "echo", "v"), wrong, None), ("NotUsable", "saying", -1)), wrong)
                if wrong not in ("v", "w"):
                    self.assertTrue(same(outcome(one.taken, wrong), ("NotUsable", "value", -1)), wrong)
            self.like(one, LIED, (("a", "echo", "v"),))
            self.assertEqual(outcome(one.say, value="w", stage="echo", house="c")[0], "returns")
            self.assertEqual(one.taken(value="v"), ())

    def test_blocked(self):
        one = Warned(*LIED)
        self.assertEqual(one.blocked(), ())
        self.assertEqual(one.say("a", "echo", "v"), (("a", "echo", "v"), (("a", "echo", "w"),)))
        self.assertEqual(one.say("b", "echo", "w"), (("b", "echo", "w"), (("b", "echo", "v"),)))
        self.assertEqual(one.blocked(), (("a", "echo", "w"), ("b", "echo", "v")))
        # A saying may come to be blocked by what another house says, its own house having said the other value before.
        one = Warned(*BOTH)
        for saying in [("c", "echo", "v"), ("c", "take", "v")]:
            one.say(*saying)
        self.assertEqual(one.blocked(), (("c", "echo", "w"),))
        self.assertEqual(one.say("d", "echo", "w"), (("d", "echo", "w"), (("c", "take", "w"), ("d", "echo", "v"))))
        # Without stages with once nothing is blocked; nor where no way of the other value holds.
        one = Warned(ABC, PAIRS, FREE[:1] + (("take", False, FREE[1][2]),), "a", ("a",))
        while one.sayable():
            self.assertEqual(one.say(*one.sayable()[0])[1], ())
        self.assertEqual(one.blocked(), ())
        one = Warned(*HEARD)
        self.assertEqual([one.say(*saying)[1] for saying in calm_run(HEARD, "v")], [()] * 9)
        one = Warned(ABC, PAIRS, SELFISH, "b", ("b",))
        self.assertEqual(one.sayable(), [("a", "take", "v"), ("a", "take", "w"), ("c", "take", "v"), ("c", "take", "w")])

    def test_whether_any_value_is_in_it(self):
        one = Course(*LIED)
        one.say("a", "echo", "v")
        for thing in EVERY_KIND + [Net.of(OWN), Lots(), one, ("a", "echo", "w"), ["a", "echo", "v"]]:
            self.assertIs(thing in one, False)
        for thing in mutants(("a", "echo", "v")):
            self.assertIs(thing in one, type(thing) is tuple and thing == ("a", "echo", "v"))

    def test_equal(self):
        kinds = (Course, Warned, Derived, DerivedWarned)
        for first, second in itertools.product(kinds, repeat=2):
            one, other = first(*LIED), second(*LIED)
            self.assertIs(one == other, True)
            self.assertIs(one != other, False)
            one.say("a", "echo", "v")
            self.assertIs(one == other, False)
            self.assertIs(other != one, True)
            other.say("a", "echo", "v")
            self.assertIs(one == other, True)
            # The order of the run matters.
            one.say("b", "echo", "v")
            one.say("c", "echo", "v")
            other.say("c", "echo", "v")
            other.say("b", "echo", "v")
            self.assertIs(one == other, False)
        self.assertIs(Course(*LIED) == Course(*LIED[:4], ()), False)
        self.assertIs(Course(*LIED) == Course(*LIED[:3], "a", ("d",)), False)
        for thing in EVERY_KIND + [(), LIED, Net.of(FOUR)]:
            self.assertIs(Course(*LIED) == thing, False)
            self.assertIs(thing == Course(*LIED), False)

    def test_iterated_over(self):
        one = Course(*HEARD)
        for saying in calm_run(HEARD, "v")[:3]:
            one.say(*saying)
        self.assertEqual([(x, y) for x in one for y in one], list(itertools.product(one.run, repeat=2)))
        self.assertEqual([one.undo() for _ in one], list(calm_run(HEARD, "v")[:3][::-1]))

    def test_refused_in_order(self):
        good = [FOUR, THREES, SENT, "a", ("b",)]
        wrong = [[(), OWN[0], list(FOUR)], [THREES[:3], None, ((),) * 4, ((("a",), ("a", "b")),) * 4], [(), SENT * 2, list(SENT)], ["e", ("a",), None], [("e",), ("b", "a"), ["a"], None, "a"]]
        words = ["net", "quorums", "protocol", "sender", "fall"]
        for kind in (Course, Warned):
            self.assertEqual(kind(**dict(zip(words, good))).setting, tuple(good))
            for k, h in itertools.combinations_with_replacement(range(5), 2):
                for one, two in itertools.product(wrong[k], wrong[h]):
                    given = list(good)
                    given[h] = two
                    given[k] = one
                    self.assertTrue(same(outcome(kind, *given), ("NotUsable", words[k], -1)), given)
            for thing in EVERY_KIND:
                if not plain.is_lot(FOUR[0], thing):
                    self.assertTrue(same(outcome(kind, *good[:4], thing), ("NotUsable", "fall", -1)))

    def test_it_cannot_be_assigned(self):
        for name in ("setting", "run"):
            with self.assertRaises(AttributeError):
                setattr(Course(*LIED), name, ())

    def test_one_does_not_change_another(self):
        one, other = Course(*LIED), Course(*LIED)
        one.say("a", "echo", "v")
        rows = one.sayable()
        rows.clear()
        self.assertEqual([len(one), len(other), len(one.sayable())], [1, 0, 4])


class ConsequencesTest(unittest.TestCase):
    def test_equal_to_a_fresh_one(self):
        rng = random.Random(335)
        for setting in SOME:
            one = Course(*setting)
            for _ in range(20):
                if one.sayable() and rng.random() < 0.7:
                    one.say(*rng.choice(one.sayable()))
                elif len(one):
                    one.undo()
            fresh = Warned(*setting)
            for saying in one.run:
                fresh.say(*saying)
            self.assertIs(one == fresh, True)

    def test_what_can_be_said_behind_a_longer_run(self):
        rng = random.Random(336)
        for setting in SOME:
            one, before = Warned(*setting), []
            for _ in range(8):
                now = one.sayable()
                for saying in before:
                    self.assertTrue(saying in now or saying in one or saying in one.blocked(), (setting, one.run, saying))
                before = now
                if now:
                    one.say(*rng.choice(now))

    def test_edges(self):
        self.assertEqual(Course(ABC, PAIRS, NEVER, "a", ("a",)).sayable(), [])
        self.assertEqual(Course(ABC, PAIRS, SHORT, "a", ("a", "b", "c")).sayable(), [])
        self.assertEqual(str(Course(*SMALL_SETTING)), "-")
        self.assertEqual(len(Course(ABC, PAIRS, MIXED, "c", ("c",)).sayable()), 4)


if __name__ == "__main__":
    unittest.main()
