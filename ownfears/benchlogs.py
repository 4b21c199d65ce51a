"""Logs of benches, and benches behind them."""

from ownfears.benches import Bench
from ownfears.benchforms import is_log_of_form
from ownfears.usable import need


def is_log(thing):
    """Whether thing is a log."""
    return is_log_of_form(thing)


def replayed(log):
    """A new Bench behind the events of a log."""
    need(is_log_of_form(log), "log")
    _, net, quorums, protocol, sender = log[0]
    bench = Bench(net, quorums, protocol, sender)
    for event in log[1:]:
        bench.follow(event)
    return bench
