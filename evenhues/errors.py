"""The refusals, each of a class of its own straight under HueError."""


class HueError(ValueError):
    """Any refusal."""


class NoStrip(HueError):
    """No strip."""


class NoSizes(HueError):
    """No sizes."""


class NoNumber(HueError):
    """No whole number within its bounds."""


class NoPlace(HueError):
    """No place that is there, or none of the sort that is due."""


class NoHue(HueError):
    """No hue that is there, or no order of the hues."""


class NoDraft(HueError):
    """No draft of the sizes."""


class NoPaper(HueError):
    """No paper for the draft."""


class NoFit(HueError):
    """A strip that does not fit the sizes."""


class NoLot(HueError):
    """No lot."""


class NoRing(HueError):
    """No ring."""


class NoRound(HueError):
    """No even round: its places are not unlike."""


class NoStand(HueError):
    """No stand of the size."""


class NoText(HueError):
    """No text that is written as it is due."""


class NoDeed(HueError):
    """No deed that can be done now."""


class NoLine(HueError):
    """No row that a desk knows."""


class TooGreat(HueError):
    """More than is let: how many, and the most there may be."""

    def __init__(self, many, most):
        HueError.__init__(self, f"{many} is more than {most}")
        self.many = many
        self.most = most
