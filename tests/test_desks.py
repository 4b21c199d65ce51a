"""[68]: desks."""

import random
import unittest

from ownfears.benches import Bench
from ownfears.benchreadings import read_log
from ownfears.benchtexts import log_lines
from ownfears.desks import Desk
from tests import plainbenches as model
from tests.anyvalues import EVERY_KIND
from tests.sameness import outcome, same
from tests.smallnets import FOUR
from tests.smallsettings import ABC, PAIRS, SENT, SHORT, THREES
from tests.test_benches import HEADS, forms, forty_log

ROWS = ["run", "possible", "houses", "verdict", "events", "undo"]
HEAD = "\n".join(log_lines((HEADS[0],)))


def read(lines):
    """The log that lines write; None if they write none. (read_log is judged elsewhere.)"""
    found = outcome(read_log, lines)
    return found[1] if found[0] == "returns" else None


def said(desk, row):
    """The answer to a row, or the error, as the model tells it."""
    found = outcome(desk.say, row)
    return found[1] if found[0] == "returns" else found


def opened(*rows):
    desk = Desk()
    for row in (HEAD,) + rows:
        desk.say(row)
    return desk


class DeskTest(unittest.TestCase):
    def judged(self, desk, log, row):
        """Say the row, and compare with the model; the log behind it is returned."""
        wanted, behind = model.desk_answer(log, row, read)
        found = said(desk, row)
        self.assertTrue(same(found, wanted), (log, row, found, wanted))
        return behind

    def test_of_the_document(self):
        desk = Desk()
        rows = (HEAD, "fall d", "bars say d echo v", "houses", "verdict", "undo")
        self.assertEqual([desk.say(row) for row in rows], ["ok", "-", "fallen", "d", "going", "fall d"])

    def test_drawn_rows(self):
        rng = random.Random(281)
        heads = ["\n".join(log_lines((head,))) for head in HEADS]
        spare = ["", " ", "\n", "-", "ok", "Run", "run ", " run", "undo\n", "bars", "bars ", "bars run", "bars undo", "bars  fall a", "bars fall a ", "fall", "fall x", "say a", "bars fall x",
                 "say a x v", "say a take x", "bars say a x v", "bars bars fall a", "events 1", "log", "tally", "bench a", heads[0] + "\n", heads[0] + "\nfall a", "\n" + heads[0], heads[0] + "\nfall x",
                 None, 1, True, (), ["run"], ("run",), 0]
        for _ in range(60):
            desk, log = Desk(), None
            for k in range(30):
                kind = rng.randrange(10)
                if kind == 0 and rng.random() < 0.4 or k == 3 and log is None:
                    row = rng.choice(heads)
                elif kind < 2:
                    row = rng.choice(spare)
                elif kind < 4 or log is None:
                    row = rng.choice(ROWS)
                else:
                    event = rng.choice(forms(log[0]))
                    if rng.random() < 0.6 and model.possible(log):
                        event = ("say",) + rng.choice(model.possible(log))
                    row = ("bars " if kind == 4 else "") + " ".join(event)
                log = self.judged(desk, log, row)
                self.assertTrue(same(desk.counts(), (k + 1, k + 1)))

    def test_without_a_bench(self):
        desk = Desk()
        for k, row in enumerate(ROWS + ["fall a", "bars fall a", "", "x", None, HEAD + "\nfall a", HEAD + "\n", ["run"]]):
            self.assertTrue(same(outcome(desk.say, row), ("InvalidRow", row)), row)
            self.assertEqual(desk.counts(), (k + 1, k + 1))
        self.assertEqual(desk.say(HEAD), "ok")
        self.assertEqual([desk.say(row) for row in ROWS[:5]], ["-", "a echo v / b echo v / c echo v / d echo v", "-", "going", "0"])
        self.assertTrue(same(outcome(desk.say, "undo"), ("NothingToUndo", 0)))

    def test_a_second_bench(self):
        desk = opened("fall d", "say a echo v")
        self.assertEqual(desk.say("events"), "2")
        # Lines of a log with events, or of none, leave the first one.
        for row in (HEAD + "\nfall b", HEAD + "\n", HEAD[:-1], "bench a"):
            self.assertTrue(same(outcome(desk.say, row), ("InvalidRow", row)))
        self.assertEqual([desk.say("events"), desk.say("houses")], ["2", "d"])
        self.assertEqual(desk.say("\n".join(log_lines((("bench", ABC, PAIRS, SHORT, "a"),)))), "ok")
        self.assertEqual([desk.say(row) for row in ROWS[:5]], ["-", "a take v / b take v / c take v", "-", "going", "0"])
        self.assertEqual(desk.counts(), (16, 16))

    def test_answers(self):
        desk = opened()
        for row, wanted in [
            ("say b echo v", "-"), ("fall a", "-"), ("say c echo v", "b take v / c take v / d take v"), ("run", "b echo v / c echo v"), ("say d echo v", "-"),
            ("bars say b echo w", "once"), ("bars say b take v", "-"), ("say b take v", "-"), ("fall b", "b echo v / b take v"), ("houses", "a b"),
            ("run", "c echo v / d echo v"), ("possible", "c take v / d take v"), ("undo", "fall b"), ("events", "5"), ("verdict", "going"), ("say c take v", "-"),
            ("say d take v", "-"), ("verdict", "taken"), ("possible", "-"), ("fall c", "c echo v / c take v"), ("run", "b echo v / d echo v / b take v / d take v"),
        ]:
            self.assertEqual(desk.say(row), wanted, row)

    def test_refused_by_the_bench(self):
        desk = opened("fall d", "say a echo v")
        for row, reason in [("fall d", "fallen"), ("say d echo v", "fallen"), ("say a echo v", "said"), ("say a echo w", "once"), ("say a take v", "ways"), ("fall x", "shape"),
                            ("say a x v", "shape"), ("say x echo v", "shape")]:
            self.assertTrue(same(outcome(desk.say, row), ("InvalidEvent", tuple(row.split(" ")), reason)))
            self.assertEqual(desk.say("bars " + row), reason)
        self.assertEqual(desk.say("events"), "2")
        self.assertEqual(desk.counts(), (3 + 8 * 2 + 1,) * 2)

    def test_forty_events(self):
        log = forty_log()
        desk = Desk()
        desk.say("\n".join(log_lines(log[:1])))
        for event in log[1:]:
            desk.say(" ".join(event))
        self.assertEqual([desk.say("events"), desk.say("bars fall f"), desk.say("bars fall x")], ["40", "full", "shape"])
        self.assertTrue(same(outcome(desk.say, "fall f"), ("InvalidEvent", ("fall", "f"), "full")))
        self.assertEqual(desk.say("undo"), " ".join(log[-1]))
        self.assertEqual(desk.say("fall f"), model.row_of(model.answer(log[:-1], ("fall", "f"))))

    def test_rows_that_are_none(self):
        desk = opened("say a echo v")
        for row in EVERY_KIND + [Bench(FOUR, THREES, SENT, "a"), "run\n", "\nrun", "undo ", "undo undo", "RUN", "bars say a echo", "bars  say a echo v", "bars say a echo v\n", "fall a\n", "fall a\nfall b",
                                 "say a echo v ", " say a echo v", "possible\nrun", "verdict?", "house", "bars\nfall a", "barsfall a", "event", "counts"]:
            self.assertTrue(same(outcome(desk.say, row), ("InvalidRow", row)), row)
        self.assertEqual([desk.say("events"), desk.say("run")], ["1", "a echo v"])

    def test_by_name_and_apart(self):
        one, other = Desk(), Desk()
        self.assertEqual(one.say(row=HEAD), "ok")
        self.assertEqual([one.counts(), other.counts()], [(1, 1), (0, 0)])
        self.assertTrue(same(outcome(other.say, "run"), ("InvalidRow", "run")))


if __name__ == "__main__":
    unittest.main()
