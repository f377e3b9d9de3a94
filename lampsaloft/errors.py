"""The errors of the package [4], [11]: each keeps what it was made of."""


class LampError(ValueError):
    """What all errors of the package are; it is raised nowhere itself."""


class NoCommand(LampError):
    """A line that is no COMMAND of a bench."""

    def __init__(self, line):
        self.line = line


class NoText(LampError):
    """A text that is not so: its line, and the first word in it that cannot stand there."""

    def __init__(self, line, column):
        self.line = line
        self.column = column


class TooMany(LampError):
    """There would be more than so many."""

    def __init__(self, most):
        self.most = most


class Wrong(LampError):
    """The argument at this place is not as described."""

    def __init__(self, place):
        self.place = place
