"""The refusals: each has a class of its own under GazeError, so that one is never taken for another."""


class GazeError(ValueError):
    pass


class NoRatio(GazeError):
    pass


class NoStretch(GazeError):
    pass


class NoGauge(GazeError):
    pass


class OffGauge(GazeError):
    pass


class NoSills(GazeError):
    pass


class NoBoard(GazeError):
    pass


class NoTelling(GazeError):
    pass


class NoClaim(GazeError):
    pass


class NoEvent(GazeError):
    pass


class TooMany(GazeError):
    pass


class NoRule(GazeError):
    pass


class NoAlarm(GazeError):
    pass


class NoRow(GazeError):
    pass


class NoName(GazeError):
    pass
