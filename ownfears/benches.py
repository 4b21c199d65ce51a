"""Benches: protocols that are led step by step."""

from ownfears.benchsteps import answer_to, event_fault, sayings_of, state_behind, verdict_of
from ownfears.benchtexts import event_line
from ownfears.errors import Broken, InvalidEvent, NothingToUndo
from ownfears.protocolkinds import need_parts
from ownfears.runrules import Rules, sayings_behind
from ownfears.usable import need


class Bench:
    """A protocol over a net, with a fall and a run that come of events."""

    MOST = 40

    def __init__(self, net, quorums, protocol, sender):
        need_parts(net, quorums, protocol, sender)
        self._head = ("bench", net, quorums, protocol, sender)
        self._events = []
        # What was there at first, and behind each of the events: a setting and a run.
        self._states = [((net, quorums, protocol, sender, ()), ())]
        self._started = 0
        self._finished = 0

    @property
    def net(self):
        """The net."""
        return self._head[1]

    @property
    def quorums(self):
        """The quorums."""
        return self._head[2]

    @property
    def protocol(self):
        """The protocol."""
        return self._head[3]

    @property
    def sender(self):
        """The sender."""
        return self._head[4]

    @property
    def setting_now(self):
        """The setting with the fall as it is now."""
        return self._states[-1][0]

    @property
    def fall_now(self):
        """The set of the houses that have fallen."""
        return self._states[-1][0][4]

    @property
    def run_now(self):
        """The run as it is now."""
        return self._states[-1][1]

    @property
    def verdict(self):
        """Parted, taken, stuck or going."""
        setting, run = self._states[-1]
        return verdict_of(setting, run)

    def barred(self, event):
        """The reason why the event would be refused; None if it would not."""
        setting, run = self._states[-1]
        return event_fault(setting, run, len(self._events) < Bench.MOST, event)

    def follow(self, event):
        """Apply an event that is no operation, and return its answer."""
        reason = self.barred(event)
        if reason is not None:
            raise InvalidEvent(event, reason)
        setting, run = self._states[-1]
        self._states.append(state_behind(setting, run, event))
        self._events.append(event)
        return answer_to(setting, run, event)

    def go(self, event):
        """Apply an event, and return its answer."""
        self._started += 1
        try:
            return self.follow(event)
        finally:
            # No operation begins within another one: so as many have ended now.
            self._finished = self._started

    def __call__(self, event):
        """Apply an event, and return its answer."""
        return self.go(event)

    def say(self, house, stage, value):
        """Let the house say the value in the stage; the set of what can be said now and could not before."""
        return self.go(("say", house, stage, value))

    def fell(self, house):
        """Let the house fall; the tuple of its sayings."""
        return self.go(("fall", house))

    def undo(self):
        """Take back the last event, and return it."""
        self._started += 1
        try:
            if not self._events:
                raise NothingToUndo(0)
            self._states.pop()
            return self._events.pop()
        finally:
            self._finished = self._started

    def do_all(self, *events, keep=False):
        """Apply the events, and return the tuple of their answers; Broken if one is refused."""
        self._started += 1
        try:
            need(isinstance(keep, bool), "keep")
            return self._follow_all(events, keep)
        finally:
            self._finished = self._started

    def _follow_all(self, events, keep):
        ahead = len(self._events)
        answers = []
        for done, event in enumerate(events):
            try:
                answers.append(self.follow(event))
            except InvalidEvent:
                if not keep:
                    del self._events[ahead:]
                    del self._states[ahead + 1:]
                raise Broken(done) from None
        return tuple(answers)

    def tried(self, *events):
        """The fall, the run and the verdict as they would be behind these events."""
        setting, run = self._states[-1]
        for k, event in enumerate(events, start=len(self._events)):
            reason = event_fault(setting, run, k < Bench.MOST, event)
            if reason is not None:
                raise InvalidEvent(event, reason)
            setting, run = state_behind(setting, run, event)
        return (setting[4], run, verdict_of(setting, run))

    def tally(self):
        """The pair of how many operations were started, and how many finished."""
        return (self._started, self._finished)

    def log(self):
        """The log of the events that were not taken back."""
        return (self._head,) + tuple(self._events)

    def possible(self):
        """Yield the sayings that can be said, ascending."""
        setting, run = self._states[-1]
        yield from sayings_behind(Rules(setting), run)

    def __getitem__(self, house):
        need(house in self.net[0], "house")
        return sayings_of(self.run_now, house)

    def __iter__(self):
        raise TypeError("a bench has no iteration")

    def __contains__(self, thing):
        return thing in self.run_now

    def __len__(self):
        return len(self._events)

    def __eq__(self, other):
        return isinstance(other, Bench) and self._head == other._head and self._events == other._events

    def __str__(self):
        if not self._events:
            return "-"
        return " / ".join([event_line(event) for event in self._events])


class Fallen(Bench):
    """A Bench that begins with the fall of some houses."""

    def __init__(self, net, quorums, protocol, sender, *houses):
        Bench.__init__(self, net, quorums, protocol, sender)
        need(houses != () and all([house in net[0] for house in houses]), "houses")
        need(len(set(houses)) == len(houses), "houses")
        for house in houses:
            self.follow(("fall", house))
