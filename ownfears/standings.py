"""Falls that are led, with the greatest guild in them."""

from ownfears.errors import NothingToUndo
from ownfears.falls import state_of
from ownfears.guilds import greatest_guild
from ownfears.lotsets import without
from ownfears.plainquorums import need_quorums, plain_quorums
from ownfears.usable import need


class Standing:
    """A fall that is led by deeds, at first of nobody."""

    def __init__(self, net, quorums):
        need_quorums(net, quorums)
        self._net = net
        self._quorums = quorums
        self._fall = ()
        self._deeds = ()

    @property
    def net_now(self):
        """The net."""
        return self._net

    @property
    def quorums_now(self):
        """The quorums."""
        return self._quorums

    @property
    def fall_now(self):
        """The set of the houses that have fallen."""
        return self._fall

    @property
    def guild_now(self):
        """The greatest guild in the fall."""
        return greatest_guild(self._net, self._quorums, self._fall)

    @property
    def states_now(self):
        """The tuple of the states of the houses in the fall, in order."""
        return tuple([state_of(self._net, self._fall, house) for house in self._net[0]])

    def fell(self, house):
        """Let the house fall; the set of the houses that leave the greatest guild."""
        need(house in without(self._net[0], self._fall), "house")
        ahead = self.guild_now
        self._fall = tuple(sorted(self._fall + (house,)))
        self._deeds = self._deeds + (("fell", house),)
        return without(ahead, self.guild_now)

    def rose(self, house):
        """Let the house rise again; the set of the houses that come to the greatest guild."""
        need(house in self._fall, "house")
        ahead = self.guild_now
        self._fall = without(self._fall, (house,))
        self._deeds = self._deeds + (("rose", house),)
        return without(self.guild_now, ahead)

    def tried(self, fall):
        """The greatest guild in a fall."""
        return greatest_guild(self._net, self._quorums, fall)

    def undo(self):
        """Take back the last deed, and return it."""
        if self._deeds == ():
            raise NothingToUndo(0)
        word, house = self._deeds[-1]
        self._deeds = self._deeds[:-1]
        if word == "fell":
            self._fall = without(self._fall, (house,))
        else:
            self._fall = tuple(sorted(self._fall + (house,)))
        return (word, house)

    def __contains__(self, thing):
        return thing in self.guild_now

    def __len__(self):
        return len(self._deeds)

    def __iter__(self):
        return iter(self._deeds)

    def __eq__(self, other):
        if not isinstance(other, Standing):
            return False
        return self._net == other.net_now and self._quorums == other.quorums_now and self._fall == other.fall_now


class Plain(Standing):
    """A Standing with the plain quorums of the net."""

    def __init__(self, net):
        Standing.__init__(self, net, plain_quorums(net))
