"""[46]: protocols as texts, and what is read from texts."""

import itertools
import random
import unittest

from ownfears.protocolreadings import protocol_read
from ownfears.protocoltexts import protocol_text
from tests import plainruns as runs
from tests import plainwords as plain
from tests.anyvalues import EVERY_KIND
from tests.sameness import outcome, same
from tests.smallsettings import MIXED, NEVER, READY, SENT, SETTINGS, SHORT, drawn_settings

PROTOCOLS = [SENT, READY, MIXED, SHORT, NEVER] + [setting[2] for setting in SETTINGS + drawn_settings(91, 200, places=99)]


def conditions_of(word):
    """The way that a word writes, or None."""
    way = []
    for part in word.split("+"):
        kind, colon, name = part.partition(":")
        if part == "sender":
            way.append(("sender",))
        elif colon and kind in runs.KINDS and plain.is_name(name):
            way.append((kind, name))
        else:
            return None
    return tuple(way)


def stage_column(words):
    """The first column of the line of a stage that cannot stand, or is missing; None if the line can."""
    state = "name"
    for k, word in enumerate(words):
        after = {"name": "once", "once": "ways", "ways": "more", "more": "more"}
        if state == "name":
            good = plain.is_name(word)
        elif state == "once":
            good = word in ("once", "free")
        elif state == "ways" and word == "-":
            good, after = True, {"ways": "end"}
        elif state == "end":
            good = False
        else:
            good = conditions_of(word) is not None
        if not good:
            return k
        state = after[state]
    return None if state in ("more", "end") else len(words)


def judged(text):
    """What is to come of a text."""
    rows = [row.split(" ") for row in text.split("\n")]
    for line, words in enumerate(rows):
        column = stage_column(words)
        if column is not None:
            return ("InvalidText", line, column)
    protocol = tuple((row[0], row[1] == "once", tuple(conditions_of(word) for word in row[2:] if word != "-")) for row in rows)
    return ("returns", protocol) if runs.is_protocol(protocol) else ("NotUsable", "text", -1)


class ProtocolTextTest(unittest.TestCase):
    def test_of_the_document(self):
        self.assertEqual(protocol_text(READY), "echo once sender\nready once quorum:echo kernel:ready\ntake once quorum:ready")
        self.assertEqual(protocol_text(protocol=NEVER), "take free -")
        self.assertEqual(protocol_text(MIXED).split("\n"), [
            "b free -", "late once one:take+sender self:late", "a free sender+self:late kernel:a one:b+quorum:a",
            "take free quorum:a+one:late kernel:late self:b"])

    def test_what_is_written_is_read_as_it_was(self):
        for protocol in PROTOCOLS:
            self.assertTrue(same(protocol_read(protocol_text(protocol)), protocol))
            self.assertTrue(same(judged(protocol_text(protocol)), ("returns", protocol)))

    def test_wrong_values(self):
        for wrong in EVERY_KIND + [READY[:2] + READY[:1], list(READY), (("a", 1, ()),)]:
            self.assertTrue(same(outcome(protocol_text, wrong), ("NotUsable", "protocol", -1)))


class ProtocolReadTest(unittest.TestCase):
    def test_named_edges(self):
        lone = (("a", True, ()),)
        for text, wanted in [
            ("", ("InvalidText", 0, 0)), ("\n", ("InvalidText", 0, 0)), ("a", ("InvalidText", 0, 1)), ("a ", ("InvalidText", 0, 1)),
            ("a once", ("InvalidText", 0, 2)), ("a free", ("InvalidText", 0, 2)), ("a free ", ("InvalidText", 0, 2)),
            ("a once -", ("returns", lone)), ("a once -\n", ("InvalidText", 1, 0)), ("\na once -", ("InvalidText", 0, 0)),
            ("a once -\n\nb once -", ("InvalidText", 1, 0)), ("a once - -", ("InvalidText", 0, 3)),
            ("a once - sender", ("InvalidText", 0, 3)), ("a once sender -", ("InvalidText", 0, 3)), ("a once - ", ("InvalidText", 0, 3)),
            ("a once sender ", ("InvalidText", 0, 3)), ("a  once sender", ("InvalidText", 0, 1)), (" a once -", ("InvalidText", 0, 0)),
            ("a once  sender", ("InvalidText", 0, 2)), ("a often sender", ("InvalidText", 0, 1)), ("a Once -", ("InvalidText", 0, 1)),
            ("A once -", ("InvalidText", 0, 0)), ("- once -", ("InvalidText", 0, 0)), ("abcdefghi once -", ("InvalidText", 0, 0)),
            ("a once +", ("InvalidText", 0, 2)), ("a once sender+", ("InvalidText", 0, 2)), ("a once +sender", ("InvalidText", 0, 2)),
            ("a once sender++sender", ("InvalidText", 0, 2)), ("a once sender:a", ("InvalidText", 0, 2)),
            ("a once one", ("InvalidText", 0, 2)), ("a once one:", ("InvalidText", 0, 2)), ("a once :a", ("InvalidText", 0, 2)),
            ("a once one:A", ("InvalidText", 0, 2)), ("a once one:a:a", ("InvalidText", 0, 2)), ("a once two:a", ("InvalidText", 0, 2)),
            ("a once one:-", ("InvalidText", 0, 2)), ("a once -+-", ("InvalidText", 0, 2)), ("a once -+sender", ("InvalidText", 0, 2)),
            ("a once one:a kernel:a", ("returns", (("a", True, ((("one", "a"),), (("kernel", "a"),))),))),
            ("a free one:a+self:a", ("returns", (("a", False, ((("one", "a"), ("self", "a")),)),))),
            ("once once sender+sender", ("returns", (("once", True, ((("sender",), ("sender",)),)),))),
            # Possible by their words, but no protocol: a stage that is not there, one that is there twice.
            ("a once one:b", ("NotUsable", "text", -1)), ("a once -\na free -", ("NotUsable", "text", -1)),
            ("a once self:sender", ("NotUsable", "text", -1)), ("a once one:b\nb once", ("InvalidText", 1, 2)),
            ("a once -\na free -\nb", ("InvalidText", 2, 1)), ("a\nb", ("InvalidText", 0, 1)),
            ("a once -\r\nb once -", ("InvalidText", 0, 2)),
            ("echo once sender\ntake often quorum:ready", ("InvalidText", 1, 1)),
        ]:
            self.assertTrue(same(outcome(protocol_read, text), wanted), (text, outcome(protocol_read, text)))
            self.assertTrue(same(judged(text), wanted), (text, judged(text)))

    def test_all_short_lines(self):
        words = ["a", "once", "free", "-", "", "sender", "one:a", "self:b+sender", "A", "one:"]
        for size in range(1, 5):
            for some in itertools.product(words, repeat=size):
                text = " ".join(some)
                self.assertTrue(same(outcome(protocol_read, text), judged(text)), text)

    def test_faults_of_written_protocols(self):
        rng = random.Random(92)
        signs = ["-", "", "a", "b", "once", "free", "sender", "one:a", "quorum:echo", "kernel:x+sender", "one:", "A", "\n", " ", "+", ":"]
        for protocol in [SENT, READY, MIXED, SHORT, NEVER]:
            for _ in range(800):
                words = protocol_text(protocol).replace("\n", " \n ").split(" ")
                for _ in range(rng.randint(1, 2)):
                    k, h = rng.randrange(len(words)), rng.randrange(len(words))
                    kind = rng.randrange(5)
                    if kind == 0:
                        words = words[:k] + words[k + 1:] or [""]
                    elif kind == 1:
                        words.insert(k, words[k])
                    elif kind == 2:
                        words[k] = rng.choice(signs)
                    elif kind == 3:
                        words.insert(k, rng.choice(signs))
                    else:
                        words[k], words[h] = words[h], words[k]
                text = " ".join(words).replace(" \n ", "\n")
                self.assertTrue(same(outcome(protocol_read, text), judged(text)), text)

    def test_faults_of_single_signs(self):
        rng = random.Random(93)
        for protocol in [SENT, READY, MIXED]:
            text = protocol_text(protocol)
            for _ in range(1000):
                k = rng.randrange(len(text) + 1)
                other = text[:k] + rng.choice(["", " ", "\n", ":", "+", "-", "a", "A"]) + text[k + rng.randint(0, 1):]
                self.assertTrue(same(outcome(protocol_read, other), judged(other)), other)

    def test_wrong_values(self):
        for wrong in EVERY_KIND + [READY, ["a once -"], ("a once -",)]:
            if not isinstance(wrong, str):
                self.assertTrue(same(outcome(protocol_read, wrong), ("NotUsable", "text", -1)))
        self.assertEqual(protocol_read(text="take free -"), NEVER)


if __name__ == "__main__":
    unittest.main()
