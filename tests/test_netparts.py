"""[14], [21]: parts of nets."""

import unittest

from ownfears.netparts import both_reckon, feared_by, lots_of, reckons, rest_of
from tests import plainwords as plain
from tests.sameness import same
from tests.smallnets import CALM, FOUR, LONE, LOST, MEEK, NAMED, NINE, OWN, SMALL, SPECIAL, WIDE, drawn_nets

NETS = SMALL + [FOUR, OWN, MEEK, LONE, LOST, WIDE, NAMED] + drawn_nets(11, 60)


class NetPartsTest(unittest.TestCase):
    def test_against_the_definitions(self):
        for net in NETS:
            houses = net[0]
            for lot in plain.subsets(houses):
                self.assertTrue(same(feared_by(net, lot), tuple(h for h in houses if plain.reckons(net, h, lot))))
                self.assertTrue(same(rest_of(net, lot), tuple(h for h in houses if h not in lot)))
                for house in houses:
                    self.assertIs(reckons(net, house, lot), plain.reckons(net, house, lot))
            for house in houses:
                self.assertTrue(same(lots_of(net, house), plain.lots(net, house)))
                for other in houses:
                    both = [lot for lot in plain.subsets(houses)
                            if plain.reckons(net, house, lot) and plain.reckons(net, other, lot)]
                    self.assertTrue(same(both_reckon(net, house, other), plain.maximal(both)))

    def test_edges(self):
        self.assertEqual(lots_of(NINE, "a"), NINE[1][0])
        self.assertEqual(len(lots_of(NINE, "a")), 20)
        self.assertEqual(lots_of(NINE, "i"), ((),))
        self.assertEqual(both_reckon(NINE, "a", "i"), ((),))
        self.assertEqual(both_reckon(NINE, "a", "b"), (("a", "b"), ("a", "c"), ("b", "c"), ("d",)))
        self.assertEqual(feared_by(NINE, ()), NINE[0])
        self.assertEqual(feared_by(NINE, NINE[0]), ())
        self.assertEqual(rest_of(NINE, NINE[0]), ())
        self.assertEqual(rest_of(NINE, ()), NINE[0])
        self.assertEqual(feared_by(LOST, ("a",)), ("a",))
        self.assertEqual(feared_by(LONE, ("a",)), ())
        self.assertIs(reckons(LONE, "a", ()), True)
        self.assertIs(reckons(LONE, "a", ("a",)), False)
        self.assertIs(reckons(WIDE, "a", ("a", "b", "c")), True)

    def test_consequences(self):
        for net in NETS + [NINE, CALM]:
            for house in net[0]:
                self.assertEqual(both_reckon(net, house, house), lots_of(net, house))
                for other in net[0]:
                    self.assertEqual(both_reckon(net, house, other), both_reckon(net, other, house))
        for net in NETS:
            for lot in plain.subsets(net[0]):
                fearing = feared_by(net, lot)
                for house in net[0]:
                    for other in net[0]:
                        within = any(set(lot) <= set(own) for own in both_reckon(net, house, other))
                        self.assertEqual(within, house in fearing and other in fearing)

    def test_by_name(self):
        self.assertEqual(lots_of(house="a", net=OWN), (("b",), ("c", "d")))
        self.assertIs(reckons(lot=("d",), house="a", net=OWN), True)
        self.assertEqual(both_reckon(other="c", house="a", net=OWN), (("b",), ("c",), ("d",)))
        self.assertEqual(feared_by(lot=("c", "d"), net=OWN), ("a",))
        self.assertEqual(rest_of(lot=("b",), net=OWN), ("a", "c", "d"))

    def test_all_nets_of_the_document_are_nets(self):
        for net in SPECIAL:
            self.assertEqual(tuple(lots_of(net, house) for house in net[0]), net[1])


if __name__ == "__main__":
    unittest.main()
