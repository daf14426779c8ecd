"""The refusals of the program, each straight under TreeError."""


class TreeError(ValueError):
    """What all refusals stand under."""


class NoWay(TreeError):
    """There are not so many least ways."""


class NoLine(TreeError):
    """A line that the desk doesn't take."""


class NoText(TreeError):
    """A text that isn't written as it should be, and where it goes wrong."""

    def __init__(self, place):
        TreeError.__init__(self, f"the text can't be read at sign {place}")
        self.place = place
