"""The book of a line: its deeds and what has come of them."""


class Book:
    """All of a line that its deeds change. The last deed can be taken back.

    What comes of a deed is a list of events (sort, station, frame). They are "offered", "settled" (the frame of a
    station waits no longer), "had" (the station has the frame once more) and "fallen" (the frame is None).
    """

    def __init__(self, stations):
        self.pages = []
        self.offered = {}
        self.waits = {}
        self.fallen = {}
        self.had = {station: [] for station in range(stations)}

    def write(self, deed, events):
        """Let the events of a deed happen."""
        self.pages.append((deed, events))
        for sort, station, frame in events:
            if sort == "offered":
                self.offered[frame] = station
                self.waits[frame] = station
            elif sort == "settled":
                del self.waits[frame]
            elif sort == "had":
                self.had[station].append(frame)
            else:
                self.fallen[station] = True

    def take_back(self):
        """Let the events of the last deed not have happened."""
        deed, events = self.pages.pop()
        for sort, station, frame in reversed(events):
            if sort == "offered":
                del self.waits[frame]
                del self.offered[frame]
            elif sort == "settled":
                self.waits[frame] = station
            elif sort == "had":
                self.had[station].pop()
            else:
                del self.fallen[station]

    def copied(self):
        """Another book with the same in it."""
        twin = Book(len(self.had))
        twin.pages = list(self.pages)
        twin.offered = dict(self.offered)
        twin.waits = dict(self.waits)
        twin.fallen = dict(self.fallen)
        twin.had = {station: list(frames) for station, frames in self.had.items()}
        return twin

    def fall_events(self, station):
        """What comes of it if a station falls silent."""
        return [("fallen", station, None)] + [("settled", station, frame)
                                              for frame, owner in self.waits.items() if owner == station]

    def send_events(self, frame, words):
        """What comes of it if a frame is sent, and these pairs (station, word) tell how that ended."""
        events = []
        for station, word in words:
            if word is None:
                events.extend(self.fall_events(station))
            elif word in ("taken", "done"):
                events.append(("had", station, frame))
            if word == "done":
                events.append(("settled", station, frame))
        return events
