"""All errors of the package: a base class, four families, and the errors with their fields."""


class UnsewnError(ValueError):
    """The base class of all errors."""


class PaperError(UnsewnError):
    """A paper that a checker looks through is wrong."""


class BookError(UnsewnError):
    """A value cannot be used, or is no book."""


class LiveError(UnsewnError):
    """A live heap refuses what it is asked."""


class TextError(UnsewnError):
    """A line cannot be read."""


class InvalidPaper(PaperError):
    """Word tells what is wrong, at tells where."""

    def __init__(self, word, at):
        self.word = word
        self.at = at


class NotUsable(BookError):
    """Word is the name of the parameter."""

    def __init__(self, word, at):
        self.word = word
        self.at = at


class Unsound(BookError):
    """Reason is the heap's fault."""

    def __init__(self, reason):
        self.reason = reason


class Torn(BookError):
    """Finds are those by which the book is torn."""

    def __init__(self, finds):
        self.finds = finds


class InvalidEvent(LiveError):
    """Event is the very value that is refused."""

    def __init__(self, event, reason):
        self.event = event
        self.reason = reason


class NothingToUndo(LiveError):
    """Steps are as many as were to be undone."""

    def __init__(self, steps):
        self.steps = steps


class InvalidText(TextError):
    """Line and field tell where the text is wrong."""

    def __init__(self, line, field):
        self.line = line
        self.field = field


class InvalidRow(TextError):
    """Row is the very value that is no line."""

    def __init__(self, row):
        self.row = row
