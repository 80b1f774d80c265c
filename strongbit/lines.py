"""Lines: stations that offer frames, send them and fall silent."""

from strongbit.books import Book
from strongbit.breaches import broken_promises
from strongbit.courses import run
from strongbit.deeds import is_deed, ordered_faults
from strongbit.errors import (BadDeed, BadFault, BadFrame, Endless, NoHearer, NoStation, NothingToUndo, NothingWaits,
                              Taken)
from strongbit.machines import is_number

MOST_FRAME = 10 ** 6
FEWEST_STATIONS = 2
MOST_STATIONS = 20


class Kept:
    """A book that a trial has kept, and what was kept ahead of it by the same trial."""

    def __init__(self, book, outer):
        self.book = book
        self.outer = outer


class Trial:
    """For a with statement: behind it the line is as it was ahead of it."""

    def __init__(self, tried_line):
        self.tried_line = tried_line
        self.kept = None

    def __enter__(self):
        self.kept = Kept(self.tried_line.book.copied(), self.kept)
        return self.tried_line

    def __exit__(self, kind, value, trace):
        self.tried_line.book = self.kept.book
        self.kept = self.kept.outer


class Line:
    """A line with so many stations, which have the same end. It is true if somebody is awake."""

    def __init__(self, end, stations):
        self.shared_end = end
        self.book = Book(stations)

    @classmethod
    def replayed(cls, end, stations, deeds):
        """A line behind these deeds, which may be any value."""
        if not isinstance(deeds, (list, tuple)):
            raise BadDeed(0)
        played = cls(end, stations)
        for index, deed in enumerate(deeds):
            try:
                played.do(deed)
            except (BadDeed, BadFault, BadFrame, Endless, NoHearer, NoStation, NothingWaits, Taken):
                raise BadDeed(index) from None
        return played

    @property
    def deeds(self):
        """All deeds so far."""
        return [deed for deed, events in self.book.pages]

    @property
    def waiting(self):
        """The frames that wait, each with its station."""
        return sorted([(frame, station) for frame, station in self.book.waits.items()])

    @property
    def awake(self):
        """The stations that are awake."""
        return [station for station in self.book.had if station not in self.book.fallen]

    def check_awake(self, station):
        """Raise NoStation if any value is not a station that is awake."""
        if not is_number(station) or station not in self.awake:
            raise NoStation(station)

    def offer(self, station, frame):
        """A station offers a frame, which waits from now on."""
        self.check_awake(station)
        if not is_number(frame) or not 0 <= frame <= MOST_FRAME:
            raise BadFrame(frame)
        if frame in self.book.offered:
            raise Taken(frame)
        self.book.write(("offer", station, frame), [("offered", station, frame)])

    def fall(self, station):
        """A station falls silent for good."""
        self.check_awake(station)
        self.book.write(("fall", station), self.book.fall_events(station))

    def send(self, *, wrong=(), silent=()):
        """The least frame that waits is sent. The words of the stations that were awake."""
        if not self.book.waits:
            raise NothingWaits()
        frame, sender = self.waiting[0]
        stations = self.awake
        if len(stations) == 1:
            raise NoHearer()
        hearers = [station for station in stations if station != sender]
        course = run(self.shared_end, sender, hearers, wrong, silent)
        words = [(station, course.places[station]) for station in stations]
        deed = ("send", ordered_faults(wrong), ordered_faults(silent))
        self.book.write(deed, self.book.send_events(frame, words))
        return words

    def do(self, deed):
        """Do a deed, which may be any value."""
        if not is_deed(deed):
            raise BadDeed(0)
        if deed[0] == "offer":
            return self.offer(deed[1], deed[2])
        if deed[0] == "fall":
            return self.fall(deed[1])
        return self.send(wrong=deed[1], silent=deed[2])

    def undo(self):
        """Take back the last deed."""
        if not self.book.pages:
            raise NothingToUndo()
        self.book.take_back()

    def trial(self):
        """For a with statement, behind which the line is as it was ahead of it."""
        return Trial(self)

    def tried(self, function):
        """What a function returns for the line, which is then as it was before."""
        with Trial(self) as line:
            return function(line)

    def has(self, station):
        """The frames of a station in the order in which it had them."""
        if not is_number(station) or station not in self.book.had:
            raise NoStation(station)
        return list(self.book.had[station])

    def broken(self):
        """The promises that are broken at this moment."""
        settled = [frame for frame in self.book.offered if frame not in self.book.waits]
        return broken_promises(settled, [(station, self.book.had[station]) for station in self.awake])

    def __contains__(self, x):
        return is_number(x) and x in self.book.waits

    def __len__(self):
        return len(self.awake)

    def __repr__(self):
        return f"Line({len(self.book.had)} stations, {len(self.book.offered)} frames)"
