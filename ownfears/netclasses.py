"""Nets and families as objects that never change."""

from ownfears.errors import NotUsable
from ownfears.kinds import are_houses, is_name, is_name_set, is_tuple_of
from ownfears.lotsets import common, greatest, includes, is_family_of, is_lot_of, without
from ownfears.netbasics import family_or_nobody
from ownfears.netchanges import is_own_lot, kept_to, renamed, with_lot, without_lot
from ownfears.netchecker import lets_net
from ownfears.netparts import both_reckon, lots_of
from ownfears.netreadings import net_read
from ownfears.nettexts import family_words, net_text
from ownfears.usable import need


class Net:
    """A net. Results of its methods and operators are of this very class, also those of derived classes."""

    def __init__(self, houses, fears):
        lets_net((houses, fears))
        self._houses = houses
        self._fears = fears

    @classmethod
    def of(cls, net):
        """The Net of a net, which may be any value."""
        lets_net(net)
        houses, fears = net
        return Net(houses, fears)

    @classmethod
    def read(cls, text):
        """The Net that the text writes."""
        houses, fears = net_read(text)
        return Net(houses, fears)

    @property
    def pair_now(self):
        """The net as a pair."""
        return (self._houses, self._fears)

    @property
    def houses_now(self):
        """The houses."""
        return self._houses

    @property
    def fears_now(self):
        """The families of the houses, in order."""
        return self._fears

    def __getitem__(self, house):
        return lots_of(self.pair_now, house)

    def __call__(self, house, other):
        """The family of the greatest lots with which house and other both reckon."""
        return both_reckon(self.pair_now, house, other)

    def __contains__(self, thing):
        return thing in self._houses

    def __len__(self):
        return len(self._houses)

    def __iter__(self):
        return iter(self._houses)

    def __str__(self):
        return str(net_text(self.pair_now))

    def __eq__(self, other):
        return isinstance(other, Net) and self.pair_now == other.pair_now

    def __add__(self, pair):
        need(is_tuple_of(pair, 2) and pair[0] in self._houses and is_lot_of(self._houses, pair[1]), "pair")
        houses, fears = with_lot(self.pair_now, pair[0], pair[1])
        return Net(houses, fears)

    def __sub__(self, pair):
        need(is_own_lot(self.pair_now, pair), "pair")
        houses, fears = without_lot(self.pair_now, pair[0], pair[1])
        return Net(houses, fears)

    def __and__(self, houses):
        kept, fears = kept_to(self.pair_now, houses)
        return Net(kept, fears)

    def renamed(self, *pairs):
        """The Net in which each old house of a pair has the new name of it."""
        houses, fears = renamed(self.pair_now, *pairs)
        return Net(houses, fears)


class Alike(Net):
    """A Net all of whose houses have one family."""

    def __init__(self, houses, family):
        need(are_houses(houses), "houses")
        need(is_family_of(houses, family), "family")
        Net.__init__(self, houses, (family,) * len(houses))
        self._family = family

    @property
    def family_now(self):
        """The family of each house."""
        return self._family


class Shut(Alike):
    """A Net all of whose houses have the family of the empty lot."""

    def __init__(self, houses):
        Alike.__init__(self, houses, ((),))


class Lots:
    """A family of sets of names, of whatever houses."""

    def __init__(self, *lots):
        for k, lot in enumerate(lots):
            if not is_name_set(lot):
                raise NotUsable("lots", k)
        self._lots = family_or_nobody(greatest(lots))

    @property
    def lots_now(self):
        """The family."""
        return self._lots

    def __contains__(self, thing):
        return is_name_set(thing) and any([includes(lot, thing) for lot in self._lots])

    def __len__(self):
        return len(self._lots)

    def __iter__(self):
        return iter(self._lots)

    def __str__(self):
        return str(family_words(self._lots))

    def __eq__(self, other):
        return isinstance(other, Lots) and self._lots == other.lots_now

    def __or__(self, other):
        need(isinstance(other, Lots), "other")
        both = self._lots + other.lots_now
        return Lots(*both)

    def __and__(self, other):
        need(isinstance(other, Lots), "other")
        parts = [common(lot, another) for lot in self._lots for another in other.lots_now]
        return Lots(*parts)

    def __sub__(self, house):
        need(is_name(house), "house")
        left = [without(lot, (house,)) for lot in self._lots]
        return Lots(*left)

    def covers(self, houses, *others):
        """Whether a lot of each, of this one and of the others, can be chosen so that they have all houses."""
        need(are_houses(houses), "houses")
        for k, other in enumerate(others):
            if not isinstance(other, Lots):
                raise NotUsable("others", k)
        rests = [houses]
        for each in [self, *others]:
            rests = sorted({without(rest, lot) for rest in rests for lot in each.lots_now})
        return () in rests
