"""All errors of the package, each with the fields that the document names."""


class FearError(ValueError):
    """The base class of all errors."""


class PaperError(FearError):
    """A paper is refused by its checker."""


class UseError(FearError):
    """Something is asked of what cannot give it."""


class BenchError(FearError):
    """A bench, or what is led step by step, cannot do a step."""


class TextError(FearError):
    """A text does not write what is read from it."""


class InvalidPaper(PaperError):
    """The first error of a paper, and where it stands."""

    def __init__(self, word, at):
        self.word = word
        self.at = at


class NotUsable(UseError):
    """The parameter of this name is not as its definition says."""

    def __init__(self, word, at):
        self.word = word
        self.at = at


class NotPossible(UseError):
    """What is asked for does not exist."""

    def __init__(self, at):
        self.at = at


class InvalidEvent(BenchError):
    """An event that is refused, and why."""

    def __init__(self, event, reason):
        self.event = event
        self.reason = reason


class NothingToUndo(BenchError):
    """No step is left that could be taken back."""

    def __init__(self, steps):
        self.steps = steps


class Broken(BenchError):
    """Several events were to be applied, and one was refused behind so many."""

    def __init__(self, done):
        self.done = done


class InvalidText(TextError):
    """The first line and the first word in it that cannot stand."""

    def __init__(self, line, column):
        self.line = line
        self.column = column


class InvalidRow(TextError):
    """A row that a desk does not know."""

    def __init__(self, row):
        self.row = row
