"""[63], [67]: events and logs by form, their lines, and what is read from lines."""

import itertools
import random
import unittest

from ownfears.benchevents import is_event
from ownfears.benchreadings import read_event, read_log
from ownfears.benchtexts import event_line, log_lines
from ownfears.netclasses import Lots, Net
from ownfears.nettexts import net_text
from ownfears.protocoltexts import protocol_text
from tests import plainruns as runs
from tests import plainwords as plain
from tests.anyvalues import EVERY_KIND, double_mutants, mutants
from tests.plainbenches import is_event_of, is_form, is_log
from tests.sameness import outcome, same
from tests.smallnets import FOUR, LONE, MEEK, NAMED, OWN
from tests.smallsettings import (
    ABC, ABC_QUORUMS, MEEK_QUORUMS, MIXED, NEVER, PAIRS, READY, SENT, SHORT, THREES, drawn_settings,
)
from tests.test_protocoltexts import judged as judged_protocol
from tests.test_texts import net_judged

SMALL_LOG = (("bench", ABC, ABC_QUORUMS, SENT, "b"), ("say", "a", "echo", "v"), ("fall", "b"), ("say", "c", "take", "w"))
NAMED_LOG = (("bench", NAMED, ((("ab", "b"), ("abc",)),) * 4, MIXED, "zzzzzzzz"), ("fall", "abc"), ("say", "ab", "late", "w"))
LONE_LOG = (("bench", LONE, ((("a",),),), NEVER, "a"),)
SMALL_LINES = [
    "bench b", "a = b | c", "b = a c", "c = -", "quorums", "a = a b | a c", "b = b", "c = a c | b c", "protocol",
    "echo once sender", "take once quorum:echo", "events", "say a echo v", "fall b", "say c take w",
]
LOGS = [SMALL_LOG, NAMED_LOG, LONE_LOG, (("bench", FOUR, THREES, READY, "a"),), (("bench", MEEK, MEEK_QUORUMS, SHORT, "d"), ("fall", "d"))]


def drawn_log(rng, setting):
    net, _, protocol, _, _ = setting
    events = [rng.choice([("fall", rng.choice(net[0])), ("say", rng.choice(net[0]), rng.choice(protocol)[0], rng.choice("vw"))])
              for _ in range(rng.randint(0, 5))]
    return (("bench",) + setting[:4],) + tuple(events)


def drawn_logs(seed, many):
    rng = random.Random(seed)
    return [drawn_log(rng, setting) for setting in drawn_settings(seed, many, places=99)]


def event_column(words):
    """The first column of the line of an event that cannot stand, or is missing; None if the line can."""
    forms = {"say": (plain.is_name, plain.is_name, runs.is_value), "fall": (plain.is_name,)}
    if words[0] not in forms:
        return 0
    form = forms[words[0]]
    for k, word in enumerate(words[1:]):
        if k >= len(form) or not form[k](word):
            return k + 1
    return None if len(words) == len(form) + 1 else len(words)


def judged_event(text):
    words = text.split(" ")
    column = event_column(words)
    return ("returns", tuple(words)) if column is None else ("InvalidText", 0, column)


def first_line_column(line):
    words = line.split(" ")
    if words[0] != "bench":
        return 0
    if len(words) < 2 or not plain.is_name(words[1]):
        return 1
    return 2 if len(words) > 2 else None


def part_judged(lines, begin, end, judge):
    """What is to come of a part of the lines: what it writes, or the error."""
    if begin == end:
        return ("InvalidText", begin, 0)
    found = judge("\n".join(lines[begin:end]))
    if found[0] == "InvalidText":
        return ("InvalidText", begin + found[1], found[2])
    return ("InvalidText", begin, 0) if found[0] == "NotUsable" else found


def judged_log(lines):
    """What is to come of a list of strings without newlines."""
    if not lines:
        return ("InvalidText", 0, 0)
    if first_line_column(lines[0]) is not None:
        return ("InvalidText", 0, first_line_column(lines[0]))
    ends = [0]
    for word in ("quorums", "protocol", "events"):
        if word not in lines[ends[-1] + 1:]:
            return ("InvalidText", len(lines), 0)
        ends.append(lines.index(word, ends[-1] + 1))
    found = []
    for k, judge in enumerate((net_judged, net_judged, judged_protocol)):
        one = part_judged(lines, ends[k] + 1, ends[k + 1], judge)
        if one[0] != "returns":
            return one
        found.append(one[1])
        if k == 1 and (one[1][0] != found[0][0] or not plain.are_quorums(found[0], one[1][1])):
            return ("InvalidText", ends[1] + 1, 0)
    net, (_, quorums), protocol = found
    sender = lines[0].split(" ")[1]
    if sender not in net[0]:
        return ("InvalidText", 0, 1)
    events = []
    for k, line in enumerate(lines):
        if k > ends[3]:
            words = tuple(line.split(" "))
            if event_column(words) is not None:
                return ("InvalidText", k, event_column(words))
            if not is_event_of(net, protocol, words):
                return ("InvalidText", k, 0)
            events.append(words)
    return ("returns", (("bench", net, quorums, protocol, sender),) + tuple(events))


class EventsTest(unittest.TestCase):
    def test_is_event(self):
        for net, protocol in [(ABC, SENT), (NAMED, MIXED), (LONE, NEVER), (FOUR, READY)]:
            events = [("fall", house) for house in net[0]]
            events += [("say", house, stage[0], value) for house in net[0] for stage in protocol for value in "vw"]
            for event in events:
                self.assertIs(is_event(net, protocol, event), True)
                self.assertIs(is_event(thing=event, protocol=protocol, net=net), True)
                for thing in mutants(event):
                    self.assertIs(is_event(net, protocol, thing), is_event_of(net, protocol, thing), thing)
            for thing in EVERY_KIND + [Net.of(OWN), Lots(), ("fall", Lots()), ("say", "a", Lots(), "v"), ("say", "a", "b", Net.of(OWN))]:
                self.assertIs(is_event(net, protocol, thing), is_event_of(net, protocol, thing))

    def test_named_edges(self):
        for thing in [("say", "a", "echo"), ("say", "a", "echo", "x"), ("say", "d", "echo", "v"), ("say", "a", "ready", "v"), ("fall", "d"),
                      ("fall", "a", "echo", "v"), ("say", "a"), ("fell", "a"), ["fall", "a"], ("fall",), ("say", "a", ("echo",), "v"),
                      ("say", "a", "echo", True), ("fall", ("a",)), ("a", "echo", "v"), "fall a", (("fall", "a"),), ("fall", "a", "a")]:
            self.assertIs(is_event(ABC, SENT, thing), False, thing)

    def test_refused_in_order(self):
        event = ("fall", "a")
        for args, word in [
            ((None, None, None), "net"), ((ABC, None, None), "protocol"), ((ABC, (), event), "protocol"), ((ABC, list(SENT), event), "protocol"),
            ((ABC, SENT + SENT, event), "protocol"), ((SENT, ABC, event), "net"), ((list(ABC), SENT, event), "net"),
        ]:
            self.assertTrue(same(outcome(is_event, *args), ("NotUsable", word, -1)), args)
        for wrong in EVERY_KIND:
            if not plain.is_net(wrong):
                self.assertTrue(same(outcome(is_event, wrong, SENT, event), ("NotUsable", "net", -1)))
                self.assertTrue(same(outcome(is_event, wrong, wrong, event), ("NotUsable", "net", -1)))
            self.assertTrue(same(outcome(is_event, ABC, wrong, event), ("NotUsable", "protocol", -1)))


class EventLineTest(unittest.TestCase):
    def test_lines(self):
        self.assertEqual(event_line(("say", "a", "echo", "v")), "say a echo v")
        self.assertEqual(event_line(event=("fall", "zzzzzzzz")), "fall zzzzzzzz")
        self.assertEqual(event_line(("say", "fall", "say", "w")), "say fall say w")

    def test_what_is_written_is_read_as_it_was(self):
        for log in LOGS + drawn_logs(131, 60):
            for event in log[1:]:
                self.assertTrue(same(read_event(event_line(event)), event))

    def test_wrong_values(self):
        for event in [("say", "a", "echo", "v"), ("fall", "b")]:
            for thing in itertools.chain(EVERY_KIND, mutants(event), [Net.of(OWN), ("fall", Lots()), ["fall", "b"], "fall b"]):
                found = outcome(event_line, thing)
                if is_form(thing):
                    self.assertTrue(same(found, ("returns", " ".join(thing))))
                else:
                    self.assertTrue(same(found, ("NotUsable", "event", -1)), (thing, found))


class ReadEventTest(unittest.TestCase):
    def test_named_edges(self):
        for text, wanted in [
            ("say a b v", ("returns", ("say", "a", "b", "v"))), ("fall a", ("returns", ("fall", "a"))), ("", ("InvalidText", 0, 0)),
            ("say", ("InvalidText", 0, 1)), ("say a", ("InvalidText", 0, 2)), ("say a b", ("InvalidText", 0, 3)),
            ("fall", ("InvalidText", 0, 1)), ("say ", ("InvalidText", 0, 1)), ("fall ", ("InvalidText", 0, 1)), (" fall a", ("InvalidText", 0, 0)),
            ("fall a ", ("InvalidText", 0, 2)), ("fall a b", ("InvalidText", 0, 2)), ("say a b v ", ("InvalidText", 0, 4)),
            ("say a b v w", ("InvalidText", 0, 4)), ("say a b x", ("InvalidText", 0, 3)), ("say a b V", ("InvalidText", 0, 3)),
            ("say a b vw", ("InvalidText", 0, 3)), ("say A b v", ("InvalidText", 0, 1)), ("say a B v", ("InvalidText", 0, 2)),
            ("say a  v", ("InvalidText", 0, 2)), ("fall a\n", ("InvalidText", 0, 1)), ("fall\na", ("InvalidText", 0, 0)),
            ("fall a\nfall b", ("InvalidText", 0, 1)), ("say a b v\n", ("InvalidText", 0, 3)), ("\nfall a", ("InvalidText", 0, 0)),
            ("\n", ("InvalidText", 0, 0)), ("undo", ("InvalidText", 0, 0)), ("fell a", ("InvalidText", 0, 0)), ("-", ("InvalidText", 0, 0)),
            ("say abcdefghi b v", ("InvalidText", 0, 1)), ("fall abcdefgh", ("returns", ("fall", "abcdefgh"))), ("fall -", ("InvalidText", 0, 1)),
            ("say say say v", ("returns", ("say", "say", "say", "v"))),
        ]:
            self.assertTrue(same(outcome(read_event, text), wanted), (text, outcome(read_event, text)))
            self.assertTrue(same(judged_event(text), wanted), text)

    def test_all_short_lines(self):
        words = ["say", "fall", "a", "v", "w", "", "A", "a\n"]
        for size in range(1, 6):
            for some in itertools.product(words, repeat=size):
                text = " ".join(some)
                self.assertTrue(same(outcome(read_event, text), judged_event(text)), text)

    def test_wrong_values(self):
        for wrong in EVERY_KIND + [("fall", "a"), ["fall a"]]:
            if not isinstance(wrong, str):
                self.assertTrue(same(outcome(read_event, wrong), ("NotUsable", "text", -1)))
        self.assertEqual(read_event(text="fall a"), ("fall", "a"))


class LogLinesTest(unittest.TestCase):
    def test_lines(self):
        self.assertTrue(same(log_lines(SMALL_LOG), SMALL_LINES))
        self.assertTrue(same(log_lines(log=LONE_LOG), ["bench a", "a = -", "quorums", "a = a", "protocol", "take free -", "events"]))
        for log in LOGS + drawn_logs(132, 60):
            _, net, quorums, protocol, sender = log[0]
            wanted = [f"bench {sender}", *net_text(net).split("\n"), "quorums", *net_text((net[0], quorums)).split("\n"), "protocol",
                      *protocol_text(protocol).split("\n"), "events", *[" ".join(event) for event in log[1:]]]
            self.assertTrue(same(log_lines(log), wanted))

    def test_what_is_written_is_read_as_it_was(self):
        for log in LOGS + drawn_logs(133, 100):
            self.assertTrue(same(read_log(log_lines(log)), log))
            self.assertTrue(same(judged_log(log_lines(log)), ("returns", log)))

    def test_each_call_gives_a_list_of_its_own(self):
        lines = log_lines(SMALL_LOG)
        lines.append("fall d")
        self.assertEqual(log_lines(SMALL_LOG), SMALL_LINES)

    def test_wrong_values(self):
        rng = random.Random(134)
        for thing in EVERY_KIND + [Net.of(OWN), Lots(), (Lots(),), SMALL_LINES]:
            self.assertTrue(same(outcome(log_lines, thing), ("NotUsable", "log", -1)))
        for log in (SMALL_LOG, LONE_LOG):
            for thing in itertools.chain(mutants(log), double_mutants(log, rng, 1000)):
                found = outcome(log_lines, thing)
                if is_log(thing):
                    self.assertEqual(found[0], "returns")
                else:
                    self.assertTrue(same(found, ("NotUsable", "log", -1)), (thing, found))
        head = SMALL_LOG[0]
        for thing in [
            (head, None), (head, ("fall", "d")), (head, ("say", "a", "ready", "v")), (head, head), (("log",) + head[1:],), (head[1:],), head,
            (head + (1,),), (list(head),), [head], (("bench", ABC, MEEK_QUORUMS, SENT, "a"),), (("bench", ABC, PAIRS, (), "a"),),
            (("bench", ABC, PAIRS, SENT, "d"),), (("bench", None, PAIRS, SENT, "a"),), (("bench", ABC, PAIRS, SENT, ("a",)),), (head, ["fall", "a"]),
        ]:
            self.assertTrue(same(outcome(log_lines, thing), ("NotUsable", "log", -1)), thing)


def changed(lines, *pairs):
    """The lines with some exchanged for others, or left out for None."""
    more = dict(pairs)
    return [more.get(k, line) for k, line in enumerate(lines) if more.get(k, line) is not None]


class ReadLogTest(unittest.TestCase):
    def test_named_edges(self):
        for lines, wanted in [
            (SMALL_LINES, ("returns", SMALL_LOG)), ([], (0, 0)), ([""], (0, 0)), (["bench"], (0, 1)), (["bench "], (0, 1)), (["bench B"], (0, 1)),
            (["bench b "], (0, 2)), (["bench b c"], (0, 2)), ([" bench b"], (0, 0)), (["Bench b"], (0, 0)), (["b"], (0, 0)), (["bench b"], (1, 0)),
            (["quorums", "protocol", "events"], (0, 0)), (["bench b", "quorums", "protocol"], (3, 0)), (["bench b", "events"], (2, 0)),
            (["bench b", "protocol", "quorums", "events"], (4, 0)), (["bench b", "quorums", "events", "protocol"], (4, 0)),
            (["bench b", "x", "protocol", "events"], (4, 0)), (["bench b", "quorums ", "protocol", "events"], (4, 0)),
            (["bench b", "quorums", "protocol", "events"], (1, 0)), (changed(SMALL_LINES, (4, None)), (14, 0)),
            (changed(SMALL_LINES, (8, None)), (14, 0)), (changed(SMALL_LINES, (11, None)), (14, 0)), (SMALL_LINES[:11], (11, 0)),
            # Parts of no lines.
            (changed(SMALL_LINES, (1, None), (2, None), (3, None)), (1, 0)), (changed(SMALL_LINES, (5, None), (6, None), (7, None)), (5, 0)),
            (changed(SMALL_LINES, (9, None), (10, None)), (9, 0)), (SMALL_LINES[:12], ("returns", SMALL_LOG[:1])),
            # Lines that are not possible, and such that write no net, no quorums of it, no protocol.
            (changed(SMALL_LINES, (2, "b = a |")), (2, 4)), (changed(SMALL_LINES, (3, "")), (3, 0)), (changed(SMALL_LINES, (3, "protocol")), (3, 1)),
            (changed(SMALL_LINES, (3, "c")), (3, 1)), (changed(SMALL_LINES, (2, "b = a d")), (1, 0)), (changed(SMALL_LINES, (3, None)), (1, 0)),
            (changed(SMALL_LINES, (1, "a = c | b")), (1, 0)), (changed(SMALL_LINES, (6, "b b")), (6, 1)), (changed(SMALL_LINES, (6, "b = -")), (5, 0)),
            (changed(SMALL_LINES, (6, "b = b | a")), (5, 0)), (changed(SMALL_LINES, (7, None)), (5, 0)), (changed(SMALL_LINES, (7, "d = a")), (5, 0)),
            (changed(SMALL_LINES, (7, "c = d")), (5, 0)), (changed(SMALL_LINES, (6, "quorums")), (6, 1)), (changed(SMALL_LINES, (5, "events")), (5, 1)),
            (changed(SMALL_LINES, (9, "echo")), (9, 1)), (changed(SMALL_LINES, (10, "take once quorum:")), (10, 2)), (changed(SMALL_LINES, (10, "")), (10, 0)),
            (changed(SMALL_LINES, (10, "take once quorum:x")), (9, 0)), (changed(SMALL_LINES, (10, "echo once -")), (9, 0)),
            (changed(SMALL_LINES, (10, "protocol")), (10, 1)), (SMALL_LINES[:8] + SMALL_LINES[4:], (8, 1)),
            (changed(SMALL_LINES, (7, "quorums"), (8, "protocol")), (7, 1)),
            # The sender comes behind the parts, and ahead of the events.
            (changed(SMALL_LINES, (0, "bench d")), (0, 1)), (changed(SMALL_LINES, (0, "bench d"), (12, "")), (0, 1)),
            (changed(SMALL_LINES, (0, "bench d"), (10, "take once quorum:x")), (9, 0)), (changed(SMALL_LINES, (0, "bench d"), (2, "b")), (2, 1)),
            # The events.
            (changed(SMALL_LINES, (12, "")), (12, 0)), (changed(SMALL_LINES, (12, "say a echo")), (12, 3)), (changed(SMALL_LINES, (13, "fall b ")), (13, 2)),
            (changed(SMALL_LINES, (13, "fall d")), (13, 0)), (changed(SMALL_LINES, (12, "say d echo v")), (12, 0)),
            (changed(SMALL_LINES, (14, "say a ready v")), (14, 0)), (changed(SMALL_LINES, (13, "fall d"), (14, "say")), (13, 0)),
            (changed(SMALL_LINES, (13, "events")), (13, 0)), (SMALL_LINES + [""], (15, 0)), (changed(SMALL_LINES, (12, "events")), (12, 0)),
            # Several at once, part by part.
            (changed(SMALL_LINES, (2, "b = a d"), (6, "b")), (1, 0)), (changed(SMALL_LINES, (6, "b = -"), (9, "x")), (5, 0)),
            (changed(SMALL_LINES, (10, "echo once -"), (12, "x")), (9, 0)), (changed(SMALL_LINES, (2, "b"), (3, "c")), (2, 1)),
            (changed(SMALL_LINES, (0, "bench"), (8, None)), (0, 1)), (changed(SMALL_LINES, (2, "b"), (8, None)), (14, 0)),
        ]:
            wanted = wanted if wanted[0] == "returns" else ("InvalidText",) + wanted
            self.assertTrue(same(outcome(read_log, lines), wanted), (lines, outcome(read_log, lines), wanted))
            self.assertTrue(same(judged_log(lines), wanted), (lines, judged_log(lines), wanted))

    def test_faults_of_written_lines(self):
        rng = random.Random(135)
        spare = ["", "quorums", "protocol", "events", "bench a", "bench", "a = -", "a = b", "fall a", "take free -", "say a take v", "x"]
        for log in LOGS[:4]:
            for _ in range(1000):
                lines = log_lines(log)
                for _ in range(rng.randint(1, 2)):
                    k, h = rng.randrange(len(lines)), rng.randrange(len(lines))
                    kind = rng.randrange(5)
                    if kind == 0:
                        del lines[k]
                    elif kind == 1:
                        lines.insert(k, lines[h])
                    elif kind == 2:
                        lines[k] = rng.choice(spare)
                    elif kind == 3:
                        lines.insert(k, rng.choice(spare))
                    else:
                        lines[k], lines[h] = lines[h], lines[k]
                kept = list(lines)
                self.assertTrue(same(outcome(read_log, lines), judged_log(lines)), lines)
                self.assertEqual(lines, kept)

    def test_faults_of_written_words(self):
        rng = random.Random(136)
        spare = ["", "-", "=", "|", "a", "b", "d", "v", "w", "once", "sender", "one:take", "A", "quorums", "events", "say", "fall", "bench"]
        for log in LOGS[:4]:
            for _ in range(1500):
                lines = log_lines(log)
                for _ in range(rng.randint(1, 2)):
                    k = rng.randrange(len(lines))
                    words = lines[k].split(" ")
                    h = rng.randrange(len(words))
                    words[h:h + rng.randint(0, 1)] = rng.choice([[], [rng.choice(spare)], [rng.choice(words)]])
                    lines[k] = " ".join(words)
                self.assertTrue(same(outcome(read_log, lines), judged_log(lines)), lines)

    def test_wrong_values(self):
        texts = ["", "\n", "a\n"]
        for wrong in EVERY_KIND + [SMALL_LOG, tuple(SMALL_LINES), "\n".join(SMALL_LINES), Net.of(OWN)]:
            if wrong == []:
                continue
            self.assertEqual(outcome(read_log, wrong)[0] == "InvalidText", type(wrong) is list and all(type(x) is str for x in wrong))
            if type(wrong) is not list or not all(type(x) is str for x in wrong):
                self.assertTrue(same(outcome(read_log, wrong), ("NotUsable", "lines", -1)), wrong)
            if type(wrong) is not str:
                for k in (0, 7, len(SMALL_LINES)):
                    lines = SMALL_LINES[:k] + [wrong] + SMALL_LINES[k:]
                    self.assertTrue(same(outcome(read_log, lines), ("NotUsable", "lines", -1)), wrong)
        for text in texts[1:]:
            self.assertTrue(same(outcome(read_log, SMALL_LINES + [text]), ("NotUsable", "lines", -1)))
            self.assertTrue(same(outcome(read_log, [text] + SMALL_LINES), ("NotUsable", "lines", -1)))
        self.assertTrue(same(outcome(read_log, changed(SMALL_LINES, (12, "fall a\nfall b"))), ("NotUsable", "lines", -1)))
        self.assertTrue(same(read_log(lines=SMALL_LINES), SMALL_LOG))


if __name__ == "__main__":
    unittest.main()
