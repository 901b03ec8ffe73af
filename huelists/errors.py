"""The errors by which things are refused."""


class HueError(ValueError):
    """What is handed in is refused."""


class NoWeb(HueError):
    """The thing is no web."""


class NoLists(HueError):
    """The thing is no lists of the web, or no tie lists of it."""


class NoSizes(HueError):
    """The thing is no sizes of the web."""


class NoChoice(HueError):
    """The thing is no choice of the web and its lists."""


class NoNumber(HueError):
    """The thing is no number, no place or no hue that is due there."""


class NoOrder(HueError):
    """The thing is no order of the web and its sizes."""


class TooMany(HueError):
    """The web has more places or ties than are taken there."""


class NoRanks(HueError):
    """The thing is no ranks, or the web is not two-sided."""


class Short(HueError):
    """A tie's list has fewer hues than the web's width."""


class NoLine(HueError):
    """The thing is no line that a desk is told."""


class NoText(HueError):
    """The thing is no text of a web and lists; at is the number of the word where that shows."""

    def __init__(self, at):
        super().__init__(f"not as due at word {at}")
        self.at = at
