"""Courses: runs that are led."""

from ownfears.errors import NothingToUndo
from ownfears.lotsets import is_lot_of
from ownfears.protocolkinds import need_parts
from ownfears.runrules import Rules, said_in, saying_fault, sayings_behind, sayings_blocked
from ownfears.sayingforms import VALUES, is_saying_of, takers_in
from ownfears.sayingtexts import run_text
from ownfears.usable import need


class Course:
    """A run that is led, at first without any saying."""

    def __init__(self, net, quorums, protocol, sender, fall):
        need_parts(net, quorums, protocol, sender)
        need(is_lot_of(net[0], fall), "fall")
        self._setting = (net, quorums, protocol, sender, fall)
        self._rules = Rules(self._setting)
        self._run = ()

    @property
    def setting(self):
        """The tuple of the net, the quorums, the protocol, the sender and the fall."""
        return self._setting

    @property
    def run(self):
        """The run as it is now."""
        return self._run

    def _with(self, run, saying):
        """The run with this saying behind it."""
        need(is_saying_of(self._setting, saying), "saying")
        need(saying_fault(self._rules, said_in(self._rules, run), saying) is None, "saying")
        return run + (saying,)

    def say(self, house, stage, value):
        """Let the house say the value in the stage; the saying is returned."""
        saying = (house, stage, value)
        self._run = self._with(self._run, saying)
        return saying

    def undo(self):
        """Take back the last saying, and return it."""
        if self._run == ():
            raise NothingToUndo(0)
        last = self._run[-1]
        self._run = self._run[:-1]
        return last

    def sayable(self):
        """The list of the sayings that can be said now, ascending."""
        return sayings_behind(self._rules, self._run)

    def taken(self, value):
        """The set of the houses that take the value in the run."""
        need(value in VALUES, "value")
        return takers_in(self._setting, self._run, value)

    def tried(self, *sayings):
        """The run as it would be with these sayings, one after the other."""
        run = self._run
        for saying in sayings:
            run = self._with(run, saying)
        return run

    def __iter__(self):
        return iter(self._run)

    def __len__(self):
        return len(self._run)

    def __contains__(self, thing):
        return thing in self._run

    def __eq__(self, other):
        return isinstance(other, Course) and self._setting == other.setting and self._run == other.run

    def __str__(self):
        return str(run_text(self._run))


class Warned(Course):
    """A Course that tells what once bars."""

    def blocked(self):
        """The set of the sayings that cannot be said now by once alone."""
        return tuple(sayings_blocked(self._rules, self._run))

    def say(self, house, stage, value):
        """The saying, which is said, and the set of those that are blocked now and were not ahead of it."""
        ahead = self.blocked()
        saying = super().say(house, stage, value)
        return (saying, tuple([one for one in self.blocked() if one not in ahead]))
