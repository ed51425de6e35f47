"""The refusals: one base under ValueError, each other one straight under it [2]."""


class WheelError(ValueError):
    """Any refusal."""


class NoTown(WheelError):
    """What is no town."""


class NoBox(WheelError):
    """A number of no box of the town, or no such crew."""


class NoLoop(WheelError):
    """A loop that the town does not have."""


class NoStretch(WheelError):
    """A stretch that is not there, or not as the deed needs it."""


class NoDeed(WheelError):
    """A deed that cannot be done as the town now is."""


class NoCards(WheelError):
    """What are no houses and cards."""


class NoCall(WheelError):
    """A number of which there is no call."""


class NoText(WheelError):
    """What is no text of a tape."""


class NoRow(WheelError):
    """What is none of the desk's rows."""
