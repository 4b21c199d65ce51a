"""[26], [27]: falls, and whom they find wise."""

import types
import unittest

from ownfears.falls import all_falls, naive_in, state_in, wise_in
from tests import plainwords as plain
from tests.sameness import outcome, same
from tests.smallnets import FOUR, LONE, LOST, MEEK, NAMED, NINE, OWN, SMALL, WIDE, drawn_nets

NETS = SMALL + [FOUR, OWN, MEEK, LONE, LOST, WIDE, NAMED] + drawn_nets(23, 40)


class FallsTest(unittest.TestCase):
    def test_against_the_definitions(self):
        for net in NETS:
            for fall in plain.subsets(net[0]):
                states = {}
                for house in net[0]:
                    wise = "wise" if plain.reckons(net, house, fall) else "naive"
                    states[house] = "fallen" if house in fall else wise
                    self.assertEqual(state_in(net, fall, house), states[house])
                    self.assertEqual(state_in(house=house, fall=fall, net=net), states[house])
                for function, word in ((wise_in, "wise"), (naive_in, "naive")):
                    wanted = tuple(house for house in net[0] if states[house] == word)
                    self.assertTrue(same(function(net, fall), wanted))
                    self.assertTrue(same(function(fall=fall, net=net), wanted))

    def test_all_falls(self):
        for net in NETS + [NINE]:
            rows = all_falls(net)
            self.assertIsInstance(rows, types.GeneratorType)
            self.assertTrue(same(list(rows), plain.subsets(net[0])))
        self.assertEqual(list(all_falls(net=LONE)), [(), ("a",)])
        self.assertEqual(list(all_falls(NAMED))[:6], [(), ("ab",), ("abc",), ("b",), ("zzzzzzzz",), ("ab", "abc")])

    def test_edges(self):
        # A house that reckons with its own fall has fallen all the same.
        self.assertEqual(state_in(LOST, ("a",), "a"), "fallen")
        self.assertEqual(state_in(LOST, (), "a"), "wise")
        self.assertEqual(state_in(LONE, ("a",), "a"), "fallen")
        self.assertEqual((wise_in(WIDE, ("b",)), naive_in(WIDE, ("b",))), (("a", "c"), ()))
        self.assertEqual((wise_in(WIDE, ("a", "c")), naive_in(WIDE, ("a", "c"))), ((), ("b",)))
        self.assertEqual(wise_in(NINE, NINE[0]), ())
        self.assertEqual(naive_in(NINE, NINE[0]), ())
        self.assertEqual(state_in(NINE, ("f", "g"), "a"), "naive")
        self.assertEqual(state_in(NINE, ("d", "g"), "a"), "wise")

    def test_consequences(self):
        for net in NETS:
            self.assertEqual(wise_in(net, ()), net[0])
            for fall in plain.subsets(net[0]):
                for smaller in plain.subsets(fall):
                    self.assertTrue(set(wise_in(net, fall)) <= set(wise_in(net, smaller)))

    def test_refused_in_order(self):
        for args, word in [
            ((None, None, None), "net"), ((OWN, None, None), "fall"), ((OWN, ("e",), "e"), "fall"), ((OWN, ("b", "a"), "a"), "fall"),
            ((OWN, (), "e"), "house"), ((OWN, (), None), "house"), ((OWN, [], "a"), "fall"), ((OWN, (), ("a",)), "house"),
        ]:
            self.assertTrue(same(outcome(state_in, *args), ("NotUsable", word, -1)))
            if word != "house":
                self.assertTrue(same(outcome(wise_in, *args[:2]), ("NotUsable", word, -1)))
                self.assertTrue(same(outcome(naive_in, *args[:2]), ("NotUsable", word, -1)))


if __name__ == "__main__":
    unittest.main()
