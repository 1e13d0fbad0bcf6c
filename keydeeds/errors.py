"""The refusals of the program."""


class DeedError(ValueError):
    """Any refusal."""


class NoText(DeedError):
    """The text is not the writing of any such thing."""


class NoRoom(DeedError):
    """There are no rows of keys for all the deeds."""
