"""The refusals of the program, each of its own class."""


class LandError(ValueError):
    """Any refusal."""


class NoForm(LandError):
    """A row is no well-made charter."""


class NoEntry(LandError):
    """No row is there under what was asked for."""


class Twice(LandError):
    """A row would stand beside an equal one."""


class NothingThere(LandError):
    """There is no deed to take back or to do again."""


class NoEstate(LandError):
    """An estate isn't there."""


class NoMan(LandError):
    """Somebody isn't of the folk of the day."""


class NoQuarrel(LandError):
    """Nobody quarrels with himself."""


class NoLand(LandError):
    """The acres, or what they bear, are out of bounds."""


class NoText(LandError):
    """A text doesn't write what it should; at is the number of its first wrong row."""

    def __init__(self, words="", at=1):
        LandError.__init__(self, words)
        self.at = at
