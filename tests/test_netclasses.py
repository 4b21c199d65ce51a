"""[18], [19], [20], [21]: nets and families as objects."""

import inspect
import itertools
import random
import unittest

from ownfears.netchanges import kept_to, renamed, with_lot, without_lot
from ownfears.netclasses import Alike, Lots, Net, Shut
from ownfears.nettexts import net_text
from tests import plainwords as plain
from tests.anyvalues import EVERY_KIND, SPARE, mutants
from tests.sameness import outcome, same
from tests.smallnets import FOUR, LONE, LOST, MEEK, NAMED, NINE, ONES, OWN, SMALL, SPECIAL, TWO, WIDE, drawn_nets, families

NETS = SMALL + SPECIAL + drawn_nets(16, 30)


class Derived(Net):
    """A class that is derived elsewhere."""


class DerivedLots(Lots):
    """A class that is derived elsewhere."""


class InterfaceTest(unittest.TestCase):
    def test_each_method_is_in_the_body_of_its_class(self):
        wanted = {
            Net: ["__init__", "pair_now", "houses_now", "fears_now", "__getitem__", "__call__", "__contains__", "__len__",
                  "__iter__", "__str__", "__eq__", "__add__", "__sub__", "__and__", "renamed", "of", "read"],
            Alike: ["__init__", "family_now"],
            Shut: ["__init__"],
            Lots: ["__init__", "lots_now", "__contains__", "__len__", "__iter__", "__str__", "__eq__", "__or__", "__and__",
                   "__sub__", "covers"],
        }
        for kind, names in wanted.items():
            self.assertEqual(kind.__module__, "ownfears.netclasses")
            for name in names:
                self.assertIn(name, vars(kind))
        self.assertEqual((Alike.__bases__, Shut.__bases__), ((Net,), (Alike,)))

    def test_parameters(self):
        wanted = {Net: "(houses, fears)", Alike: "(houses, family)", Shut: "(houses)", Lots: "(*lots)"}
        for kind, text in wanted.items():
            self.assertEqual(str(inspect.signature(kind)), text)
        self.assertEqual(str(inspect.signature(Net.of)), "(net)")
        self.assertEqual(str(inspect.signature(Net.read)), "(text)")
        self.assertEqual(str(inspect.signature(Net.renamed)), "(self, *pairs)")
        self.assertEqual(str(inspect.signature(Lots.covers)), "(self, houses, *others)")
        self.assertEqual(str(inspect.signature(Net.__call__)), "(self, house, other)")


class NetTest(unittest.TestCase):
    def same_net(self, one, net):
        """Whether one is of the class Net itself, with this net."""
        self.assertIs(type(one), Net)
        self.assertTrue(same(one.pair_now, net), one.pair_now)

    def test_made(self):
        for net in NETS:
            for one in (Net(*net), Net(fears=net[1], houses=net[0]), Net.of(net), Net.of(net=net), Net.read(net_text(net)),
                        Net.read(text=net_text(net))):
                self.same_net(one, net)
                self.assertTrue(same(one.houses_now, net[0]))
                self.assertTrue(same(one.fears_now, net[1]))

    def test_made_of_no_net(self):
        for net in (LONE, TWO, WIDE):
            for thing in mutants(net):
                word = next(plain.net_errors(thing), None)
                if word is not None:
                    self.assertTrue(same(outcome(Net.of, thing), ("InvalidPaper",) + word), thing)
                    if plain.is_pair(thing):
                        self.assertTrue(same(outcome(Net, *thing), ("InvalidPaper",) + word), thing)
        for houses, fears in itertools.product(EVERY_KIND, repeat=2):
            word = next(plain.net_errors((houses, fears)), None)
            if word is not None:
                self.assertTrue(same(outcome(Net, houses, fears), ("InvalidPaper",) + word))
        for thing in EVERY_KIND + [Net.of(OWN)]:
            if not plain.is_net(thing):
                self.assertEqual(outcome(Net.of, thing)[0], "InvalidPaper")

    def test_read_with_the_errors_of_net_read(self):
        for text, wanted in [
            ("", ("InvalidText", 0, 0)), ("a = -\n", ("InvalidText", 1, 0)), ("a = a |", ("InvalidText", 0, 4)),
            ("a = b", ("NotUsable", "text", -1)), (None, ("NotUsable", "text", -1)), (LONE, ("NotUsable", "text", -1)),
        ]:
            self.assertTrue(same(outcome(Net.read, text), wanted))

    def test_asked(self):
        for net in NETS:
            one = Net.of(net)
            self.assertEqual(len(one), len(net[0]))
            self.assertEqual(list(one), list(net[0]))
            self.assertEqual(str(one), net_text(net))
            for house in net[0]:
                self.assertTrue(same(one[house], plain.lots(net, house)))
                self.assertIs(house in one, True)
            self.assertTrue(same(one.pair_now, net))
        one = Net.of(OWN)
        self.assertEqual(one("a", "c"), (("b",), ("c",), ("d",)))
        self.assertEqual(one(other="c", house="a"), (("b",), ("c",), ("d",)))
        self.assertEqual(one("a", "a"), one["a"])

    def test_whether_any_value_is_a_house(self):
        one = Net.of(NAMED)
        for thing in EVERY_KIND + [one, Lots(), "ab", "zzzzzzzz"]:
            self.assertIs(thing in one, type(thing) is str and thing in NAMED[0])

    def test_iterated_twice_at_once(self):
        one = Net.of(OWN)
        self.assertEqual([(x, y) for x in one for y in one], list(itertools.product("abcd", repeat=2)))
        first, second = iter(one), iter(one)
        self.assertEqual([next(first), next(first), next(second), next(first)], ["a", "b", "a", "c"])

    def test_equal(self):
        for net, other in itertools.product(SMALL, repeat=2):
            self.assertIs(Net.of(net) == Net.of(other), net == other)
            self.assertIs(Net.of(net) != Net.of(other), net != other)
        one = Net.of(FOUR)
        self.assertIs(one == Derived(*FOUR), True)
        self.assertIs(Derived(*FOUR) == one, True)
        self.assertIs(one == Alike(FOUR[0], ONES), True)
        self.assertIs(Alike(FOUR[0], ONES) == one, True)
        self.assertIs(Alike(("a",), ((),)) == Shut(("a",)), True)
        self.assertIs(Shut(("a",)) == Net.of(LOST), False)
        for thing in EVERY_KIND + [FOUR, Lots(*ONES), str(one)]:
            self.assertIs(one == thing, False)
            self.assertIs(thing == one, False)

    def test_plus_and_minus(self):
        for net in SMALL + [WIDE, MEEK, OWN]:
            one = Net.of(net)
            for house, lot in itertools.product(net[0], plain.subsets(net[0])):
                self.same_net(one + (house, lot), with_lot(net, house, lot))
                if lot in plain.lots(net, house):
                    self.same_net(one - (house, lot), without_lot(net, house, lot))
                else:
                    self.assertTrue(same(outcome(lambda: one - (house, lot)), ("NotUsable", "pair", -1)))
            self.assertTrue(same(one.pair_now, net))

    def test_plus_and_minus_in_place_make_another_net(self):
        one = other = Net.of(LONE)
        other += ("a", ("a",))
        self.same_net(other, LOST)
        other -= ("a", ("a",))
        self.same_net(other, LONE)
        self.same_net(one, LONE)

    def test_and(self):
        for net in SMALL + [WIDE, MEEK, OWN, NINE]:
            one = Net.of(net)
            for houses in plain.subsets(net[0]):
                if houses:
                    self.same_net(one & houses, kept_to(net, houses))
                else:
                    self.assertTrue(same(outcome(lambda: one & houses), ("NotUsable", "houses", -1)))
            self.same_net(one, net)

    def test_renamed(self):
        one = Net.of(MEEK)
        for pairs in ((), (("a", "z"),), (("a", "b"), ("b", "a")), (("d", "d"),)):
            self.same_net(one.renamed(*pairs), renamed(MEEK, *pairs))
        for pairs, k in [
            ((("a", "z"), ("a", "y")), 1), ((None,), 0), ((("a", "z"), ("e", "y")), 1), ((("a", "b"),), -1),
            ((["a", "z"],), 0), ((("a", "Z"),), 0), ((("a", "b"), 1), 1),
        ]:
            self.assertTrue(same(outcome(one.renamed, *pairs), ("NotUsable", "pairs", k)))
        for wrong in EVERY_KIND + [one, Lots()]:
            if not (plain.is_pair(wrong) and plain.is_house(MEEK, wrong[0]) and plain.is_name(wrong[1])):
                self.assertTrue(same(outcome(one.renamed, wrong), ("NotUsable", "pairs", 0)))
                self.assertTrue(same(outcome(one.renamed, ("b", "y"), wrong, wrong), ("NotUsable", "pairs", 1)))
        self.same_net(one, MEEK)

    def test_results_of_derived_classes_are_of_net_itself(self):
        for one in (Derived(*FOUR), Alike(FOUR[0], ONES)):
            self.same_net(one + ("a", ("b", "c")), with_lot(FOUR, "a", ("b", "c")))
            self.same_net(one - ("a", ("b",)), without_lot(FOUR, "a", ("b",)))
            self.same_net(one & ("a", "b"), kept_to(FOUR, ("a", "b")))
            self.same_net(one.renamed(("a", "z")), renamed(FOUR, ("a", "z")))
            self.same_net(one.renamed(), FOUR)
        shut = Shut(("a", "b"))
        self.same_net(shut - ("a", ()), shut.pair_now)
        self.same_net(shut + ("a", ()), shut.pair_now)
        self.same_net(shut & ("b",), (("b",), (((),),)))

    def test_derived_classes_are_asked_like_nets(self):
        for one in (Derived(*FOUR), Alike(FOUR[0], ONES)):
            self.assertEqual([one["a"], one("a", "b"), "d" in one, len(one), list(one)], [ONES, ONES, True, 4, list("abcd")])
            self.assertEqual(str(one), net_text(FOUR))

    def test_it_cannot_be_assigned(self):
        one = Net.of(OWN)
        for name in ("pair_now", "houses_now", "fears_now"):
            with self.assertRaises(AttributeError):
                setattr(one, name, FOUR)
        with self.assertRaises(TypeError):
            one["a"] = ((),)


class AlikeTest(unittest.TestCase):
    def test_alike(self):
        for houses in (("a",), ("a", "b"), ("a", "b", "c")):
            for family in families(houses):
                for one in (Alike(houses, family), Alike(family=family, houses=houses)):
                    self.assertTrue(same(one.pair_now, (houses, (family,) * len(houses))))
                    self.assertTrue(same(one.family_now, family))
                    self.assertIsInstance(one, Net)

    def test_alike_refused(self):
        for houses in ((), ("b", "a"), ["a"], "a", None, 1):
            for family in (((),), None, ()):
                self.assertTrue(same(outcome(Alike, houses, family), ("NotUsable", "houses", -1)))
        for family in ((), None, "a", ("a",), (("c",),), (("b",), ("a",)), [()], ((), ("a",)), (["a"],)):
            self.assertTrue(same(outcome(Alike, ("a", "b"), family), ("NotUsable", "family", -1)))

    def test_shut(self):
        for houses in (("a",), ("a", "b"), tuple("abcdefghi")):
            one = Shut(houses)
            self.assertTrue(same(one.pair_now, (houses, (((),),) * len(houses))))
            self.assertTrue(same(one.family_now, ((),)))
            self.assertTrue(same(Shut(houses=houses).fears_now, one.fears_now))
            self.assertIsInstance(one, Alike)
        for houses in ((), ("b", "a"), ["a"], "a", None, 1, True):
            self.assertTrue(same(outcome(Shut, houses), ("NotUsable", "houses", -1)))


NAMES = ("a", "b", "c")
FAMILIES = families(NAMES)


class LotsTest(unittest.TestCase):
    def same_lots(self, one, family):
        self.assertIsInstance(one, Lots)
        self.assertTrue(same(one.lots_now, family), one.lots_now)

    def test_made(self):
        self.same_lots(Lots(), ((),))
        self.same_lots(Lots(()), ((),))
        self.same_lots(Lots((), ("a",)), (("a",),))
        self.same_lots(Lots(("b",), ("a",), ("b",)), (("a",), ("b",)))
        self.same_lots(Lots(("x", "zzzzzzzz"), ("x",), ("a",)), (("a",), ("x", "zzzzzzzz")))
        for lots in itertools.product(plain.subsets(NAMES), repeat=3):
            self.same_lots(Lots(*lots), plain.maximal(lots))

    def test_made_of_what_is_no_set_of_names(self):
        for wrong in EVERY_KIND + [Lots(), Net.of(OWN)]:
            if not plain.is_name_set(wrong):
                self.assertTrue(same(outcome(Lots, wrong), ("NotUsable", "lots", 0)))
                self.assertTrue(same(outcome(Lots, ("a",), wrong, ()), ("NotUsable", "lots", 1)))
                self.assertTrue(same(outcome(Lots, (), ("b",), wrong, None), ("NotUsable", "lots", 2)))

    def test_asked(self):
        for family in FAMILIES:
            one = Lots(*family)
            self.assertTrue(same(one.lots_now, family))
            self.assertEqual(len(one), len(family))
            self.assertEqual(list(one), list(family))
            self.assertEqual([(x, y) for x in one for y in one], list(itertools.product(family, repeat=2)))
            self.assertEqual(str(one), " | ".join(" ".join(lot) or "-" for lot in family))
            for lot in plain.subsets(("a", "b", "c", "d")):
                self.assertIs(lot in one, any(set(lot) <= set(own) for own in family))
            self.assertTrue(same(one.lots_now, family))

    def test_str_is_as_in_a_line(self):
        for family in FAMILIES:
            row = net_text((NAMES, (family,) * 3)).split("\n")[0]
            self.assertEqual(row, "a = " + str(Lots(*family)))

    def test_whether_any_value_is_in_it(self):
        one = Lots(("a", "b"), ("x",))
        for thing in EVERY_KIND + SPARE + [one, Net.of(OWN)]:
            wanted = plain.is_name_set(thing) and (set(thing) <= {"a", "b"} or set(thing) <= {"x"})
            self.assertIs(thing in one, wanted, thing)

    def test_equal(self):
        for family, other in itertools.product(FAMILIES, repeat=2):
            self.assertIs(Lots(*family) == Lots(*other), family == other)
            self.assertIs(Lots(*family) != Lots(*other), family != other)
        self.assertIs(Lots(("a",)) == DerivedLots(("a",)), True)
        self.assertIs(DerivedLots(("a",)) == Lots(("a",)), True)
        for thing in EVERY_KIND + [Net.of(OWN), (("a",),)]:
            self.assertIs(Lots(("a",)) == thing, False)
            self.assertIs(thing == Lots(("a",)), False)

    def test_or_and_and(self):
        for family, other in itertools.product(FAMILIES, repeat=2):
            one, two = Lots(*family), Lots(*other)
            self.same_lots(one | two, plain.maximal(family + other))
            self.same_lots(one & two, plain.maximal(set(a) & set(b) for a in family for b in other))
            self.assertTrue(one | two == two | one)
            self.assertTrue(one & two == two & one)
            self.assertTrue(same((one.lots_now, two.lots_now), (family, other)))
        self.same_lots(Lots(("a",)) | DerivedLots(("b",)), (("a",), ("b",)))
        self.same_lots(DerivedLots(("a",)) & Lots(("b",)), ((),))
        for wrong in EVERY_KIND + [Net.of(OWN)]:
            self.assertTrue(same(outcome(lambda: Lots() | wrong), ("NotUsable", "other", -1)))
            self.assertTrue(same(outcome(lambda: Lots() & wrong), ("NotUsable", "other", -1)))

    def test_minus(self):
        for family in FAMILIES:
            one = Lots(*family)
            for house in ("a", "b", "c", "x", "abcdefgh"):
                self.same_lots(one - house, plain.maximal(set(lot) - {house} for lot in family))
            self.assertTrue(same(one.lots_now, family))
        for wrong in EVERY_KIND + [Lots(), Net.of(OWN)]:
            if not plain.is_name(wrong):
                self.assertTrue(same(outcome(lambda: Lots(("a",)) - wrong), ("NotUsable", "house", -1)))

    def test_covers(self):
        rng = random.Random(17)
        sets = plain.subsets(("a", "b", "c", "d"))[1:]
        for _ in range(1500):
            some = [rng.choice(FAMILIES) for _ in range(rng.randint(1, 4))]
            houses = rng.choice(sets)
            wanted = any(set(houses) <= set().union(*lots) for lots in itertools.product(*some))
            one, *others = [Lots(*family) for family in some]
            self.assertIs(one.covers(houses, *others), wanted)
            self.assertEqual([one.lots_now] + [other.lots_now for other in others], some)

    def test_covers_edges(self):
        self.assertIs(Lots(("a",)).covers(("a",)), True)
        self.assertIs(Lots(("a",)).covers(houses=("a",)), True)
        self.assertIs(Lots().covers(("a",)), False)
        self.assertIs(Lots(("a",), ("b",)).covers(("a", "b")), False)
        one = Lots(("a",), ("b",))
        self.assertIs(one.covers(("a", "b"), one), True)
        self.assertIs(one.covers(("a", "b", "c"), one, one, DerivedLots(("c",))), True)
        many = [Lots((x,), (y,)) for x, y in zip("abcdefghi", "bcdefghia")]
        self.assertIs(many[0].covers(tuple("abcdefghi"), *many[1:]), True)
        self.assertIs(many[0].covers(tuple("abcdefghi"), *many[2:]), False)

    def test_covers_refused(self):
        one = Lots(("a",))
        for wrong in EVERY_KIND:
            if not plain.are_houses(wrong):
                self.assertTrue(same(outcome(one.covers, wrong), ("NotUsable", "houses", -1)))
                self.assertTrue(same(outcome(one.covers, wrong, None), ("NotUsable", "houses", -1)))
            self.assertTrue(same(outcome(one.covers, ("a",), wrong), ("NotUsable", "others", 0)))
            self.assertTrue(same(outcome(one.covers, ("a",), one, wrong, wrong), ("NotUsable", "others", 1)))
        self.assertTrue(same(outcome(one.covers, ("a",), one, Net.of(OWN)), ("NotUsable", "others", 1)))

    def test_it_cannot_be_assigned(self):
        with self.assertRaises(AttributeError):
            Lots().lots_now = (("a",),)


if __name__ == "__main__":
    unittest.main()
