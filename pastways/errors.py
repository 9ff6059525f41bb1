"""The refusals of the program."""


class WayError(ValueError):
    """Any refusal."""


class NoFit(WayError):
    """A change does not fit a text, or can't stand behind another change."""


class Clash(WayError):
    """Two changes drop unlike signs at one place."""


class NoPlace(WayError):
    """A text has no such place."""


class NoNumber(WayError):
    """There is nothing of that number."""


class NoText(WayError):
    """A text is not the writing of anything."""
