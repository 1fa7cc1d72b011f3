"""The refusals, one class for each kind, all right under LineError."""


class LineError(ValueError):
    """What is handed in isn't as told."""


class NoStreams(LineError):
    """How many streams, or the streams, aren't as told."""


class NoComers(LineError):
    """No comers, or no comer."""


class NoRate(LineError):
    """No rate."""


class NoNumber(LineError):
    """A number that isn't as told."""


class NoRule(LineError):
    """No rule, or one of another kind than asked."""


class NoMemory(LineError):
    """No memory of that rule."""


class NoStream(LineError):
    """No stream."""


class NoLane(LineError):
    """No lane of that stream."""


class NoStanding(LineError):
    """No standing of those streams."""


class NoDeed(LineError):
    """Nothing is left to take back."""


class NoWorld(LineError):
    """No world."""


class NoState(LineError):
    """No state of that world."""


class TooLong(LineError):
    """It would take more ticks than are looked at."""


class TooWide(LineError):
    """It would take more lanes or pairs than are looked at."""


class NoLoad(LineError):
    """No load."""


class NoBucket(LineError):
    """No bucket."""


class NoText(LineError):
    """No text that is so written."""


class NoLine(LineError):
    """No line is there."""


class NoRun(LineError):
    """No run: number is the tick at fault, 0 where it is none at all."""

    def __init__(self, number):
        LineError.__init__(self, f"no run, by its tick {number}")
        self.number = number
