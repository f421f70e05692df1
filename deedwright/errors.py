"""The refusals, one class for each."""


class WrightError(ValueError):
    """Any refusal."""


class NoText(WrightError):
    """A text that writes no program."""


class NoName(WrightError):
    """A name that stands for nothing, or for too much."""


class NoCount(WrightError):
    """Another number of things than is asked for."""


class NoGo(WrightError):
    """A go or a handle where none may stand."""


class NoHold(WrightError):
    """A run that can't be gone on with."""


class NoTurn(WrightError):
    """Two handlers that may not be turned."""


class NoRow(WrightError):
    """A row that the desk doesn't know."""


class Lacking(WrightError):
    """A deed that nobody answers, and a way that leads to it."""

    def __init__(self, deed, way):
        WrightError.__init__(self, f"nobody answers the deed {deed}")
        self.deed = deed
        # A copy, so that what the maker does to its list later changes nothing here.
        self.way = list(way)
