"""All errors of the package, by families."""


class PieceError(ValueError):
    """The base of all errors of the package."""


class PaperError(PieceError):
    """The family of what checkers refuse."""


class NetError(PieceError):
    """The family of arguments that are not usable."""


class SpreadError(PieceError):
    """The family of what a spread refuses."""


class TextError(PieceError):
    """The family of texts that cannot be read."""


class InvalidPaper(PaperError):
    """A checker does not accept a value."""

    def __init__(self, word, at):
        self.word = word
        self.at = at


class NotUsable(NetError):
    """An argument is not what it has to be."""

    def __init__(self, word, at):
        self.word = word
        self.at = at


class InvalidEvent(SpreadError):
    """An event is refused."""

    def __init__(self, event, reason):
        self.event = event
        self.reason = reason


class NothingToUndo(SpreadError):
    """There is no event to take back."""

    def __init__(self, steps):
        self.steps = steps


class Barred(SpreadError):
    """An event is refused since houses would fall short."""

    def __init__(self, event, houses):
        self.event = event
        self.houses = houses


class InvalidText(TextError):
    """A text cannot be read."""

    def __init__(self, line, field):
        self.line = line
        self.field = field


class InvalidRow(TextError):
    """A desk does not know a row."""

    def __init__(self, row):
        self.row = row
