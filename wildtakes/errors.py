"""The refusals, each a class of its own."""


class TakeError(LookupError):
    """Any refusal."""


class BadProgram(TakeError):
    """What was handed in is no program."""


class BadText(TakeError):
    """What was handed in is not the text of a program."""


class BadRoom(TakeError):
    """What was handed in is no room."""


class BadOrder(TakeError):
    """What was handed in is no order."""


class BadMeetings(TakeError):
    """What was handed in is no list of meetings."""


class NoEvent(TakeError):
    """What was handed in is none of the run's events."""


class NotEnded(TakeError):
    """The run has not come to such an end."""


class TooMany(TakeError):
    """The program has too many wild takes."""


class Wild(TakeError):
    """The program has a wild take."""
