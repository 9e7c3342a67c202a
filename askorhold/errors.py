"""The errors of the package [11]. Each keeps the objects that it is made from."""


class AskError(ValueError):
    """What all errors of this package are; it is raised nowhere itself."""


class Wrong(AskError):
    """The argument at this place is not as described."""

    def __init__(self, place):
        self.place = place


class NoTree(AskError):
    """No text of the wanted sort begins as this one does up to this place."""

    def __init__(self, place):
        self.place = place


class TooMany(AskError):
    """There is more of something than this many."""

    def __init__(self, most):
        self.most = most


class Endless(AskError):
    """This call needs itself."""

    def __init__(self, call):
        self.call = call


class NoFunction(AskError):
    """There is no function with this name."""

    def __init__(self, name):
        self.name = name


class Cannot(AskError):
    """This deed cannot be done."""

    def __init__(self, deed):
        self.deed = deed


class Contrary(AskError):
    """The contrary is told of this call."""

    def __init__(self, call):
        self.call = call


class NothingToAsk(AskError):
    """There is no question to be answered."""


class NoCommand(AskError):
    """This line says nothing that can be done."""

    def __init__(self, line):
        self.line = line


class Nothing(AskError):
    """What is wanted is not there."""
