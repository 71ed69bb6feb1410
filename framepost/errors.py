"""The refusals of the package, one class for each."""


class FrameError(ValueError):
    """Any refusal."""


class Refused(FrameError):
    """A sign behind which no letter can come; at is its number on the road."""

    def __init__(self, at):
        self.at = at


class Cut(FrameError):
    """A road that ends within a letter; at is how many signs were taken in."""

    def __init__(self, at):
        self.at = at


class Unread(FrameError):
    """A road that a lax reader cannot read."""


class NoLetter(FrameError):
    """A letter, or a row of letters, that may not be written."""


class NoRule(FrameError):
    """Rules that no post may have."""


class NoRow(FrameError):
    """A row that the desk does not know."""
