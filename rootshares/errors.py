"""The refusals: all come under RootError, none under another one."""


class RootError(ValueError):
    """Any refusal."""


class NoWeb(RootError):
    """What is handed in is no web."""


class NoPlace(RootError):
    """What is handed in is no place of the web, or none that fits."""


class NoTie(RootError):
    """What is handed in is no tie of the web, or none that fits."""


class NoLot(RootError):
    """What is handed in is no lot of the web, or none that fits."""


class NoTree(RootError):
    """What is handed in is no tree of the web from the root."""


class NoText(RootError):
    """What is handed in is no text that can be read."""


class NoNumber(RootError):
    """What is handed in is no whole number, or none that fits."""


class NoRoots(RootError):
    """What is handed in is no tuple of roots."""


class NoCosts(RootError):
    """What is handed in is no tuple of costs, or no cost."""


class TooMany(RootError):
    """There is more than can be told."""


class TooFew(RootError):
    """There are too few trees; the lot shows why."""

    def __init__(self, lot):
        self.lot = lot
