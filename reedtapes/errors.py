"""What is refused: one class for each kind of failure."""


class TapeError(ValueError):
    """The base of what is refused as wrong."""

    def __init__(self, why=""):
        ValueError.__init__(self, why)
        name = self.__class__.__name__
        self.called = name.lower()


class BadNumber(TapeError):
    """A number is beyond its bounds."""


class BadEvent(TapeError):
    """A tuple is no event."""


class BadTrack(TapeError):
    """A list is no track from the place `at` on."""

    def __init__(self, at):
        TapeError.__init__(self, f"no such event may stand at place {at}")
        self.at = at


class BadBytes(TapeError):
    """Bytes don't go on with the one at `at`, or end there too early."""

    def __init__(self, at):
        TapeError.__init__(self, f"the bytes don't go on like this at place {at}")
        self.at = at


class BadBeat(TapeError):
    """A number of ticks is no beat."""


class BadPace(TapeError):
    """A number of millionths is no pace."""


class BadTick(TapeError):
    """A number is no tick, or none that may be told here."""


class BadMoment(TapeError):
    """A pair is no moment."""


class BadKey(TapeError):
    """A number is no key."""


class BadGrid(TapeError):
    """The numbers make no grid."""


class BadChannel(TapeError):
    """A number is no channel."""


class BadPaper(TapeError):
    """The old ticks don't fit the track."""


class BadName(TapeError):
    """A text is no name."""


class Taken(TapeError):
    """A name has a tape already."""


class Full(TapeError):
    """There is no room for more."""


class NotWhole(TapeError):
    """The tick at the place `at` would not be whole."""

    def __init__(self, at):
        TapeError.__init__(self, f"the tick at place {at} would not be whole")
        self.at = at


class BadDeed(TapeError):
    """A tuple is no deed."""


class BadPage(TapeError):
    """A text is no page, for its row `row`."""

    def __init__(self, row):
        TapeError.__init__(self, f"row {row} can't be read")
        self.row = row


class NothingLeft(TapeError):
    """There is nothing to take back or to do again."""


class MissingError(LookupError):
    """The base of what is refused as not being there."""

    def __init__(self, why=""):
        LookupError.__init__(self, why)
        name = self.__class__.__name__
        self.called = name.lower()


class NoTape(MissingError):
    """No tape has this name."""


class NoTrack(MissingError):
    """The tape has no track of this number."""


class NoEvent(MissingError):
    """The track has no event at this place."""


class NoPace(MissingError):
    """No pace begins at this tick."""
