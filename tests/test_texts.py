"""[16], [17]: lots and nets as texts, and what is read from texts."""

import itertools
import random
import unittest

from ownfears.netreadings import lot_read, net_read
from ownfears.nettexts import lot_text, net_text
from tests import plainwords as plain
from tests.anyvalues import EVERY_KIND
from tests.sameness import outcome, same
from tests.smallnets import FOUR, LONE, LOST, MEEK, NAMED, NINE, OWN, SMALL, SPECIAL, TWO, WIDE, drawn_nets

NETS = SMALL + SPECIAL + drawn_nets(15, 60)


def lot_column(words):
    """The first column of a lot that cannot stand, by trying what could stand there; None if all can."""
    for k, word in enumerate(words):
        if k == 0 and (word == "-" or plain.is_name(word)):
            continue
        if k > 0 and words[0] != "-" and plain.is_name(word):
            continue
        return k
    return None


def line_column(words):
    """The first column of a line of a net that cannot stand, or is missing; None if the line can."""
    state = "house"
    for k, word in enumerate(words):
        after = {
            "house": {"name": "sign"},
            "sign": {"=": "lot"},
            "lot": {"name": "names", "-": "nobody"},
            "names": {"name": "names", "|": "lot"},
            "nobody": {"|": "lot"},
        }[state]
        state = after.get("name" if plain.is_name(word) else word)
        if state is None:
            return k
    return None if state in ("names", "nobody") else len(words)


def lot_judged(text):
    words = text.split(" ")
    column = lot_column(words)
    if column is not None:
        return ("InvalidText", 0, column)
    lot = () if words == ["-"] else tuple(words)
    return ("returns", lot) if plain.is_name_set(lot) else ("NotUsable", "text", -1)


def net_judged(text):
    rows = [row.split(" ") for row in text.split("\n")]
    for line, words in enumerate(rows):
        column = line_column(words)
        if column is not None:
            return ("InvalidText", line, column)
    houses = tuple(words[0] for words in rows)
    fears = []
    for words in rows:
        family, lot = [], []
        for word in words[2:] + ["|"]:
            if word == "|":
                family.append(tuple(lot))
                lot = []
            elif word != "-":
                lot.append(word)
        fears.append(tuple(family))
    net = (houses, tuple(fears))
    return ("returns", net) if plain.is_net(net) else ("NotUsable", "text", -1)


class TextsTest(unittest.TestCase):
    def test_lots(self):
        self.assertEqual(lot_text(()), "-")
        self.assertEqual(lot_text(("a",)), "a")
        self.assertEqual(lot_text(("a", "bb", "zzzzzzzz")), "a bb zzzzzzzz")
        self.assertEqual(lot_text(lot=("x", "y")), "x y")

    def test_nets(self):
        self.assertEqual(net_text(LONE), "a = -")
        self.assertEqual(net_text(LOST), "a = a")
        self.assertEqual(net_text(TWO), "a = b\nb = a")
        self.assertEqual(net_text(WIDE), "a = a b c\nb = -\nc = a | b c")
        self.assertEqual(net_text(MEEK), "a = b | c\nb = a d\nc = a | b\nd = c")
        self.assertEqual(net_text(net=FOUR).split("\n"), [f"{house} = a | b | c | d" for house in "abcd"])
        self.assertTrue(net_text(NAMED).startswith("ab = ab b | abc\nabc = -\n"))

    def test_what_is_written_is_read_as_it_was(self):
        for net in NETS:
            self.assertTrue(same(net_read(net_text(net)), net))
            for lot in [lot for family in net[1] for lot in family]:
                self.assertTrue(same(lot_read(lot_text(lot)), lot))

    def test_texts_that_are_read_are_written_as_they_were(self):
        for text in ("-", "a", "a b", "abcdefgh x"):
            self.assertEqual(lot_text(lot_read(text)), text)
        for text in ("a = -", "a = a", "a = b\nb = -", "a = a | b\nb = a b"):
            self.assertEqual(net_text(net_read(text)), text)


class LotReadTest(unittest.TestCase):
    def test_named_edges(self):
        for text, wanted in [
            ("", ("InvalidText", 0, 0)), ("-", ("returns", ())), ("a", ("returns", ("a",))), (" ", ("InvalidText", 0, 0)),
            ("- ", ("InvalidText", 0, 1)), ("a ", ("InvalidText", 0, 1)), (" a", ("InvalidText", 0, 0)),
            ("a  b", ("InvalidText", 0, 1)), ("- -", ("InvalidText", 0, 1)), ("- a", ("InvalidText", 0, 1)),
            ("a -", ("InvalidText", 0, 1)), ("a b -", ("InvalidText", 0, 2)), ("a\n", ("InvalidText", 0, 0)),
            ("a b\n", ("InvalidText", 0, 1)), ("a\nb", ("InvalidText", 0, 0)), ("\n", ("InvalidText", 0, 0)),
            ("a \n", ("InvalidText", 0, 1)), ("-\n", ("InvalidText", 0, 0)), ("b a", ("NotUsable", "text", -1)),
            ("a a", ("NotUsable", "text", -1)), ("a b a", ("NotUsable", "text", -1)), ("b a -", ("InvalidText", 0, 2)),
            ("b a C", ("InvalidText", 0, 2)), ("abcdefghi", ("InvalidText", 0, 0)), ("a |", ("InvalidText", 0, 1)),
            ("--", ("InvalidText", 0, 0)), ("a,b", ("InvalidText", 0, 0)), ("a = b", ("InvalidText", 0, 1)),
        ]:
            self.assertTrue(same(outcome(lot_read, text), wanted), (text, outcome(lot_read, text)))
            self.assertTrue(same(lot_judged(text), wanted))

    def test_all_short_texts(self):
        words = ["a", "b", "-", "|", "=", "", "A", "a\n", "\n"]
        for size in range(1, 5):
            for some in itertools.product(words, repeat=size):
                text = " ".join(some)
                self.assertTrue(same(outcome(lot_read, text), lot_judged(text)), text)

    def test_no_strings(self):
        for wrong in EVERY_KIND:
            if not isinstance(wrong, str):
                self.assertTrue(same(outcome(lot_read, wrong), ("NotUsable", "text", -1)))
        self.assertEqual(lot_read(text="a"), ("a",))


class NetReadTest(unittest.TestCase):
    def test_named_edges(self):
        for text, wanted in [
            ("", ("InvalidText", 0, 0)), ("\n", ("InvalidText", 0, 0)), ("a", ("InvalidText", 0, 1)),
            ("a =", ("InvalidText", 0, 2)), ("a = ", ("InvalidText", 0, 2)), ("a = -", ("returns", LONE)),
            ("a = a", ("returns", LOST)), ("a = a\n", ("InvalidText", 1, 0)), ("a = a\n\n", ("InvalidText", 1, 0)),
            ("\na = a", ("InvalidText", 0, 0)), ("a = a ", ("InvalidText", 0, 3)), ("a  = a", ("InvalidText", 0, 1)),
            (" a = a", ("InvalidText", 0, 0)), ("a = - -", ("InvalidText", 0, 3)), ("a = - a", ("InvalidText", 0, 3)),
            ("a = a -", ("InvalidText", 0, 3)), ("a = a |", ("InvalidText", 0, 4)), ("a = |", ("InvalidText", 0, 2)),
            ("a = a | |", ("InvalidText", 0, 4)), ("a = a | =", ("InvalidText", 0, 4)), ("a = a =", ("InvalidText", 0, 3)),
            ("a = =", ("InvalidText", 0, 2)), ("a - a", ("InvalidText", 0, 1)), ("- = a", ("InvalidText", 0, 0)),
            ("= a", ("InvalidText", 0, 0)), ("A = a", ("InvalidText", 0, 0)), ("a=a", ("InvalidText", 0, 0)),
            ("a = -\nb", ("InvalidText", 1, 1)), ("a = |\nb", ("InvalidText", 0, 2)), ("a\nb = a |", ("InvalidText", 0, 1)),
            ("a = b", ("NotUsable", "text", -1)), ("b = -\na = -", ("NotUsable", "text", -1)),
            ("a = -\na = -", ("NotUsable", "text", -1)), ("a = - | a", ("NotUsable", "text", -1)),
            ("a = a | -", ("NotUsable", "text", -1)), ("a = - | -", ("NotUsable", "text", -1)),
            ("a = b a\nb = -", ("NotUsable", "text", -1)), ("a = b | a\nb = -", ("NotUsable", "text", -1)),
            ("a = a | a b\nb = -", ("NotUsable", "text", -1)), ("a = b\nb = a |", ("InvalidText", 1, 4)),
            ("a = x\nb = a |", ("InvalidText", 1, 4)), ("b = -\na = - x", ("InvalidText", 1, 3)),
        ]:
            self.assertTrue(same(outcome(net_read, text), wanted), (text, outcome(net_read, text)))
            self.assertTrue(same(net_judged(text), wanted), text)

    def test_all_short_lines(self):
        words = ["a", "b", "-", "|", "=", "", "A"]
        for size in range(1, 6):
            for some in itertools.product(words, repeat=size):
                text = " ".join(some)
                self.assertTrue(same(outcome(net_read, text), net_judged(text)), text)

    def test_faults_of_written_nets(self):
        rng = random.Random(10)
        signs = ["-", "|", "=", "", "a", "b", "A", "zz", "\n", " ", "abcdefghi"]
        for net in [TWO, WIDE, MEEK, OWN]:
            for _ in range(800):
                words = net_text(net).replace("\n", " \n ").split(" ")
                for _ in range(rng.randint(1, 3)):
                    k = rng.randrange(len(words))
                    words[k:k + rng.randint(0, 1)] = rng.choice([[], [rng.choice(signs)]])
                    words = words or [""]
                text = " ".join(words).replace(" \n ", "\n")
                self.assertTrue(same(outcome(net_read, text), net_judged(text)), text)

    def test_no_strings(self):
        for wrong in EVERY_KIND:
            if not isinstance(wrong, str):
                self.assertTrue(same(outcome(net_read, wrong), ("NotUsable", "text", -1)))
        self.assertEqual(net_read(text="a = -"), LONE)
        self.assertEqual(len(net_read(net_text(NINE))[1][0]), 20)


if __name__ == "__main__":
    unittest.main()
