"""The refusals: each a class straight under FloorError."""


class FloorError(ValueError):
    """Something was asked that is refused."""


class NotRound(FloorError):
    """The steps don't come round."""


class NoWay(FloorError):
    """There is no way to do it."""


class TooGreat(FloorError):
    """It would be greater than is allowed."""


class NoText(FloorError):
    """The text writes nothing of its kind."""


class NoLine(FloorError):
    """The line is none that the desk knows."""
