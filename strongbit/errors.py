"""The errors of the package, one class for each kind of failure."""


class BadEnd(ValueError):
    """Two values that are not the machines of an end."""

    def __init__(self, part, row):
        self.part = part
        self.row = row


class BadFault(ValueError):
    """A fault that is not possible in its sending."""

    def __init__(self, bit, station):
        self.bit = bit
        self.station = station


class BadFrame(ValueError):
    """A value that is no frame."""

    def __init__(self, frame):
        self.frame = frame


class BadText(ValueError):
    """A value that is not the text of an end."""

    def __init__(self, text):
        self.text = text


class BadCommand(ValueError):
    """A value that is no command of the desk."""

    def __init__(self, command):
        self.command = command


class NoPromise(ValueError):
    """A value that is not the name of a promise."""

    def __init__(self, promise):
        self.promise = promise


class NoStation(KeyError):
    """A value that is not a station that can be used so."""

    def __init__(self, station):
        self.station = station


class NoName(KeyError):
    """A name under which the desk keeps no end."""

    def __init__(self, name):
        self.name = name


class NoOutcome(LookupError):
    """A value that is not a possible outcome."""

    def __init__(self, outcome):
        self.outcome = outcome


class NothingToUndo(LookupError):
    """No deed of the line is left to take back."""

    def __init__(self):
        pass


class BadDeed(IndexError):
    """An item that is no deed or cannot be done."""

    def __init__(self, index):
        self.index = index


class Endless(RuntimeError):
    """A sending that never ends."""

    def __init__(self, bit, ring):
        self.bit = bit
        self.ring = ring


class NothingWaits(RuntimeError):
    """No frame waits on the line."""

    def __init__(self):
        pass


class NoHearer(RuntimeError):
    """Only the sender is awake."""

    def __init__(self):
        pass


class NoLine(RuntimeError):
    """The desk keeps no line."""

    def __init__(self):
        pass


class TooMany(OverflowError):
    """More standings come about than the limit allows."""

    def __init__(self, limit):
        self.limit = limit


class Unsound(ArithmeticError):
    """An end that does not even hold without faults."""

    def __init__(self):
        pass


class Unbounded(ArithmeticError):
    """Some sending is endless, so the ways cannot be counted."""

    def __init__(self):
        pass


class Taken(TypeError):
    """A frame that was offered before."""

    def __init__(self, frame):
        self.frame = frame
