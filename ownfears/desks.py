"""Desks: benches that are led by lines."""

from ownfears.benchlogs import replayed
from ownfears.benchreadings import read_event, read_log
from ownfears.benchtexts import event_line
from ownfears.errors import InvalidRow, InvalidText
from ownfears.sayingtexts import saying_text

BARS = "bars "


def log_of_row(row):
    """The log that the lines of the row write; None if they write none."""
    try:
        return read_log(row.split("\n"))
    except InvalidText:
        return None


def event_of_row(row):
    """The event that the row writes; None if it writes none."""
    try:
        return read_event(row)
    except InvalidText:
        return None


def sayings_row(sayings):
    """The answer that tells these sayings."""
    return " / ".join([saying_text(saying) for saying in sayings]) if sayings else "-"


def told_of(bench, row):
    """The answer to a row that asks what a bench is like; None if the row does not."""
    if row == "run":
        return sayings_row(bench.run_now)
    if row == "possible":
        return sayings_row(list(bench.possible()))
    if row == "houses":
        return " ".join(bench.fall_now) if bench.fall_now else "-"
    if row == "verdict":
        return bench.verdict
    if row == "events":
        return str(len(bench))
    return None


def answer_of(bench, row):
    """The answer of a bench to any row but the lines of a log; None if the row is none that it knows."""
    event = event_of_row(row)
    if event is not None:
        return sayings_row(bench.go(event))
    if row == "undo":
        return event_line(bench.undo())
    if row.startswith(BARS):
        asked = event_of_row(row[len(BARS):])
        return None if asked is None else bench.barred(asked) or "-"
    return told_of(bench, row)


class Desk:
    """A desk with a bench, at first none."""

    def __init__(self):
        self._bench = None
        self._started = 0
        self._finished = 0

    def say(self, row):
        """The answer to a row; InvalidRow for what is none."""
        self._started += 1
        try:
            return self._answered(row)
        finally:
            # No call of say begins within another one: so as many have ended now.
            self._finished = self._started

    def _answered(self, row):
        if not isinstance(row, str):
            raise InvalidRow(row)
        log = log_of_row(row)
        if log is not None and len(log) == 1:
            self._bench = replayed(log)
            return "ok"
        answer = None if self._bench is None else answer_of(self._bench, row)
        if answer is None:
            raise InvalidRow(row)
        return answer

    def counts(self):
        """The pair of how many calls of say were started, and how many finished."""
        return (self._started, self._finished)
