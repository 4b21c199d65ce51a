"""[53]: sayings and runs as texts, and what is read from texts."""

import itertools
import random
import unittest

from ownfears.netclasses import Lots, Net
from ownfears.sayingreadings import run_read, saying_read
from ownfears.sayingtexts import run_text, saying_text
from tests import plainruns as runs
from tests import plainwords as plain
from tests.anyvalues import EVERY_KIND, double_mutants, mutants
from tests.sameness import outcome, same
from tests.smallnets import OWN

RUNS = [(), (("a", "echo", "v"),), (("a", "echo", "v"), ("a", "echo", "v")), (("zzzzzzzz", "v", "w"), ("w", "abcdefgh", "v"), ("a", "a", "v"))]


def is_form(v):
    return type(v) is tuple and len(v) == 3 and plain.is_name(v[0]) and plain.is_name(v[1]) and runs.is_value(v[2])


def is_run_form(v):
    return type(v) is tuple and all(is_form(one) for one in v)


def column_of(words):
    """The first column of the line of a saying that cannot stand, or is missing; None if the line can."""
    form = (plain.is_name, plain.is_name, runs.is_value)
    for k, word in enumerate(words):
        if k >= 3 or not form[k](word):
            return k
    return None if len(words) == 3 else len(words)


def judged_saying(text):
    words = text.split(" ")
    column = column_of(words)
    return ("returns", tuple(words)) if column is None else ("InvalidText", 0, column)


def judged_run(text):
    if text == "-":
        return ("returns", ())
    found = []
    for k, row in enumerate(text.split("\n")):
        words = row.split(" ")
        if column_of(words) is not None:
            return ("InvalidText", k, column_of(words))
        found.append(tuple(words))
    return ("returns", tuple(found))


class TextsTest(unittest.TestCase):
    def test_texts(self):
        self.assertEqual(saying_text(("a", "echo", "v")), "a echo v")
        self.assertEqual(saying_text(saying=("w", "v", "w")), "w v w")
        self.assertEqual(run_text(()), "-")
        self.assertEqual(run_text(run=RUNS[2]), "a echo v\na echo v")
        self.assertEqual(run_text(RUNS[3]), "zzzzzzzz v w\nw abcdefgh v\na a v")

    def test_wrong_values(self):
        rng = random.Random(221)
        for thing in itertools.chain(EVERY_KIND, mutants(("a", "echo", "v")), [Net.of(OWN), ("a", Lots(), "v"), ["a", "echo", "v"], "a echo v"]):
            wanted = ("returns", " ".join(thing)) if is_form(thing) else ("NotUsable", "saying", -1)
            self.assertTrue(same(outcome(saying_text, thing), wanted), thing)
        for run in RUNS:
            for thing in itertools.chain(EVERY_KIND, mutants(run), double_mutants(run, rng, 200), [list(run), (Lots(),)]):
                found = outcome(run_text, thing)
                if is_run_form(thing):
                    self.assertTrue(same(found, ("returns", "\n".join(map(" ".join, thing)) or "-")))
                else:
                    self.assertTrue(same(found, ("NotUsable", "run", -1)), thing)

    def test_what_is_written_is_read_as_it_was(self):
        for run in RUNS:
            self.assertTrue(same(run_read(run_text(run)), run))
            for saying in run:
                self.assertTrue(same(saying_read(saying_text(saying)), saying))


class ReadingsTest(unittest.TestCase):
    def test_sayings(self):
        for text, wanted in [
            ("a echo v", ("returns", ("a", "echo", "v"))), ("v w w", ("returns", ("v", "w", "w"))), ("", 0), (" ", 0), ("-", 0), ("a", 1), ("a ", 1),
            ("a -", 1), ("a echo", 2), ("a echo ", 2), ("a echo x", 2), ("a echo V", 2), ("a echo vw", 2), ("a echo v ", 3), ("a echo v w", 3),
            ("A echo v", 0), ("a Echo v", 1), ("abcdefghi echo v", 0), ("a  v", 1), (" a echo v", 0), ("a echo v\n", 2), ("a\necho v", 0), ("\na echo v", 0),
            ("a echo v\na echo v", 2), ("a echo\n v", 1), ("say a echo v", 2), ("a echo -", 2), ("\n", 0), ("a echo\nv", 1),
        ]:
            wanted = wanted if isinstance(wanted, tuple) else ("InvalidText", 0, wanted)
            self.assertTrue(same(outcome(saying_read, text), wanted), (text, outcome(saying_read, text)))
            self.assertTrue(same(judged_saying(text), wanted), text)

    def test_runs(self):
        one = ("a", "echo", "v")
        for text, wanted in [
            ("-", ("returns", ())), ("a echo v", ("returns", (one,))), ("a echo v\na echo v", ("returns", (one, one))), ("", (0, 0)), ("\n", (0, 0)),
            # A - stands alone, or not at all.
            ("-\n", (0, 0)), ("- ", (0, 0)), (" -", (0, 0)), ("\n-", (0, 0)), ("a echo v\n-", (1, 0)), ("-\na echo v", (0, 0)), ("--", (0, 0)), ("- -", (0, 0)),
            ("a echo v\n", (1, 0)), ("a echo v\n\na echo v", (1, 0)), ("\na echo v", (0, 0)), ("a echo v\na echo", (1, 2)), ("a echo v\na echo v ", (1, 3)),
            ("a echo v w\na", (0, 3)), ("a echo v\na echo v\nb x y", (2, 2)), ("a\nb", (0, 1)), ("a echo v a echo v", (0, 3)), ("a echo v / a echo v", (0, 3)),
        ]:
            wanted = wanted if wanted[0] == "returns" else ("InvalidText",) + wanted
            self.assertTrue(same(outcome(run_read, text), wanted), (text, outcome(run_read, text)))
            self.assertTrue(same(judged_run(text), wanted), text)

    def test_all_short_lines(self):
        words = ["a", "v", "w", "", "A", "-", "a\n", "\nv"]
        for size in range(1, 5):
            for some in itertools.product(words, repeat=size):
                text = " ".join(some)
                self.assertTrue(same(outcome(saying_read, text), judged_saying(text)), text)
                self.assertTrue(same(outcome(run_read, text), judged_run(text)), text)

    def test_faults_of_written_runs(self):
        rng = random.Random(222)
        for _ in range(3000):
            text = run_text(tuple(rng.choice(RUNS[3] + RUNS[1]) for _ in range(rng.randint(0, 4))))
            for _ in range(rng.randint(1, 2)):
                k = rng.randint(0, len(text))
                text = text[:k] + rng.choice(["", " ", "\n", "-", "x", "A", "v"]) + text[k + rng.randint(0, 1):]
            self.assertTrue(same(outcome(run_read, text), judged_run(text)), text)
            self.assertTrue(same(outcome(saying_read, text), judged_saying(text)), text)

    def test_wrong_values(self):
        for function in (saying_read, run_read):
            for wrong in EVERY_KIND + [("a", "echo", "v"), ["a echo v"], Net.of(OWN)]:
                if not isinstance(wrong, str):
                    self.assertTrue(same(outcome(function, wrong), ("NotUsable", "text", -1)), wrong)
                    self.assertTrue(same(outcome(function, text=wrong), ("NotUsable", "text", -1)), wrong)
        self.assertEqual(saying_read(text="a b w"), ("a", "b", "w"))
        self.assertEqual(run_read(text="a b w"), (("a", "b", "w"),))


if __name__ == "__main__":
    unittest.main()
