"""Slow models of sendings, lines and standings, written down from the document's words, to compare with."""

from itertools import combinations, product


def follow(rows, place, bit):
    """What follows a row behind a heard bit."""
    return rows[place][1 + bit]


def state_behind(end, hearers, faults, last):
    """The places of all stations, the line and the heard bits behind so many bits, with faults (bit, station, sort)."""
    def has(bit, station, sort):
        return (bit, station, sort) in faults

    rows = [end.sender] + [end.hearer] * hearers
    places = [0] + [1 if has(0, station, "wrong") else 0 for station in range(1, hearers + 1)]
    line, heard = [], [[] for station in range(hearers + 1)]
    for bit in range(1, last + 1):
        if all(isinstance(place, str) or place is None for place in places):
            break
        puts = []
        for station, place in enumerate(places):
            if isinstance(place, int) and has(bit, station, "silent"):
                places[station] = None
            elif isinstance(place, int):
                puts.append(rows[station][place][0])
        line.append(0 if 0 in puts else 1)
        for station, place in enumerate(places):
            if isinstance(place, int):
                got = line[-1] ^ has(bit, station, "wrong")
                heard[station].append(got)
                places[station] = follow(rows[station], place, got)
    return places, line, heard


def impossible_fault(end, hearers, wrong, silent):
    """The least fault that is not possible beside the lesser ones, or None."""
    faults = sorted([(bit, station, "wrong") for bit, station in wrong]
                    + [(bit, station, "silent") for bit, station in silent])
    pairs = [fault[:2] for fault in faults]
    for bit, station, sort in faults:
        lesser = [fault for fault in faults if fault[:2] < (bit, station)]
        possible = bit <= 5000 and pairs.count((bit, station)) == 1
        if possible and bit == 0:
            possible = sort == "wrong" and 1 <= station <= hearers
        elif possible:
            places, line, heard = state_behind(end, hearers, lesser, bit - 1)
            possible = (len(line) == bit - 1 and station <= hearers and isinstance(places[station], int))
        if not possible:
            return bit, station
    return None


def plain_sending(end, hearers, wrong, silent, longest=400):
    """("bad", bit, station), ("endless", bit, ring) or ("ended", line, words, heard)."""
    bad = impossible_fault(end, hearers, wrong, silent)
    if bad is not None:
        return ("bad", *bad)
    faults = [(bit, station, "wrong") for bit, station in wrong] + [(bit, station, "silent") for bit, station in silent]
    last = max([0] + [bit for bit, station, sort in faults])
    behind = {}
    for bit in range(last, longest):
        places, line, heard = state_behind(end, hearers, faults, bit)
        if not any(isinstance(place, int) for place in places):
            return "ended", tuple(line), tuple(places), tuple(tuple(bits) for bits in heard)
        if tuple(places) in behind:
            return "endless", behind[tuple(places)], bit - behind[tuple(places)]
        behind[tuple(places)] = bit
    raise AssertionError("neither an end nor a ring")


class PlainLine:
    """A line that knows its deeds only, and tells all else from them anew each time."""

    def __init__(self, end, stations):
        self.end = end
        self.stations = stations
        self.deeds = []
        self.results = []

    def awake(self):
        fallen = [deed[1] for deed in self.deeds if deed[0] == "fall"]
        fallen += [station for words in self.results if words for station, word in words if word is None]
        return [station for station in range(self.stations) if station not in fallen]

    def offered(self):
        return {deed[2]: deed[1] for deed in self.deeds if deed[0] == "offer"}

    def sent(self):
        """The tuples (frame, sender, words) of all sendings."""
        return [(words[0], words[1], words[2]) for words in self.sendings()]

    def sendings(self):
        history = PlainLine(self.end, self.stations)
        found = []
        for deed, words in zip(self.deeds, self.results):
            if deed[0] == "send":
                frame, sender = history.waiting()[0]
                found.append((frame, sender, words))
            history.deeds.append(deed)
            history.results.append(words)
        return found

    def waiting(self):
        done = [frame for frame, sender, words in self.sent() if (sender, "done") in words]
        awake = self.awake()
        return sorted((frame, station) for frame, station in self.offered().items()
                      if frame not in done and station in awake)

    def has(self, station):
        return [frame for frame, sender, words in self.sent() for who, word in words
                if who == station and word in ("taken", "done")]

    def broken(self):
        awake, found = self.awake(), set()
        waiting = [frame for frame, station in self.waiting()]
        had = {station: self.has(station) for station in awake}
        for frame in self.offered():
            having = [station for station in awake if frame in had[station]]
            if frame not in waiting and having and len(having) != len(awake):
                found.add(("all", frame))
            for station in awake:
                if had[station].count(frame) > 1:
                    found.add(("once", frame, station))
        for frame, other in combinations(sorted(self.offered()), 2):
            orders = {had[station].index(frame) < had[station].index(other) for station in awake
                      if frame in had[station] and other in had[station]}
            if len(orders) == 2:
                found.add(("order", frame, other))
        return sorted(found)

    def tell(self, deed):
        """Do a deed and return ("did", result), or return ("error", name, fields)."""
        outcome = self.outcome(deed)
        if outcome[0] == "did":
            self.deeds.append(deed)
            self.results.append(outcome[1])
        return outcome

    def outcome(self, deed):
        if deed[0] in ("offer", "fall"):
            if isinstance(deed[1], bool) or deed[1] not in self.awake():
                return "error", "NoStation", (deed[1],)
        if deed[0] == "offer":
            if isinstance(deed[2], bool) or deed[2] not in range(10 ** 6 + 1):
                return "error", "BadFrame", (deed[2],)
            if deed[2] in self.offered():
                return "error", "Taken", (deed[2],)
        if deed[0] != "send":
            return "did", None
        if not self.waiting():
            return "error", "NothingWaits", ()
        awake = self.awake()
        if len(awake) == 1:
            return "error", "NoHearer", ()
        return self.outcome_of_sending(awake, deed[1], deed[2])

    def outcome_of_sending(self, awake, wrong, silent):
        sender = self.waiting()[0][1]
        stations = [sender] + [station for station in awake if station != sender]
        bad = self.impossible_fault(stations, wrong, silent)
        if bad is not None:
            return "error", "BadFault", bad
        told = plain_sending(self.end, len(stations) - 1, renumbered(stations, wrong), renumbered(stations, silent))
        if told[0] == "endless":
            return "error", "Endless", told[1:]
        return "did", sorted(zip(stations, told[2]))

    def impossible_fault(self, stations, wrong, silent):
        """The least fault by the numbers of the line that is not possible beside the lesser ones."""
        for bit, station in sorted([*wrong, *silent]):
            before = [[fault for fault in faults if fault < (bit, station)] for faults in (wrong, silent)]
            these = [[fault for fault in faults if fault == (bit, station)] for faults in (wrong, silent)]
            if station not in stations:
                return bit, station
            numbers = [renumbered(stations, old + new) for old, new in zip(before, these)]
            if impossible_fault(self.end, len(stations) - 1, *numbers) is not None:
                return bit, station
        return None


def renumbered(stations, faults):
    """Faults with the numbers that stations have in a sending."""
    return [(bit, stations.index(station)) for bit, station in faults]


def written(end, left, sender, hearers):
    """The standing for hearers as pairs (place, whether it had a wrong bit), None for silent ones."""
    crowd = [place for place, had_wrong in hearers if not had_wrong and place is not None]
    hit = [place for place, had_wrong in hearers if had_wrong and place is not None]
    assert len(set(crowd)) <= 1
    rows = tuple(sorted(place for place in hit if isinstance(place, int)))
    words = tuple(sorted(place for place in hit if isinstance(place, str)))
    many = min(len(crowd), left + 1)
    if crowd and isinstance(crowd[0], str):
        many = 1
    return left, sender, crowd[0] if crowd else None, many, rows + words


def plain_standings(end, wrong, silent, hearers):
    """All standings with exactly so many hearers, met by going through all sendings."""
    moments = set()
    for bodies in product((False, True), repeat=hearers):
        if sum(bodies) <= wrong:
            places = tuple((1, True) if body else (0, False) for body in bodies)
            moments.add((wrong - sum(bodies), 0, places))
    ahead = list(moments)
    while ahead:
        for moment in plain_moves(end, silent, *ahead.pop()):
            if moment not in moments:
                moments.add(moment)
                ahead.append(moment)
    return {written(end, *moment) for moment in moments}


def plain_moves(end, silent, left, sender, hearers):
    """The moments behind one more bit."""
    going = [number for number, place in enumerate([sender] + [place for place, hit in hearers])
             if isinstance(place, int)]
    if not going:
        return
    for falls in product((False, True), repeat=len(going)) if silent else [(False,) * len(going)]:
        fallen = [number for number, fall in zip(going, falls) if fall]
        rest = [number for number in going if number not in fallen]
        rows = [(end.hearer if number else end.sender)[hearers[number - 1][0] if number else sender]
                for number in rest]
        line = 0 if any(row[0] == 0 for row in rows) else 1
        for flips in product((0, 1), repeat=len(rest)):
            if sum(flips) > left:
                continue
            new_sender, new_hearers = sender, list(hearers)
            if 0 in fallen:
                new_sender = "silent"
            for number in fallen:
                if number:
                    new_hearers[number - 1] = (None, hearers[number - 1][1])
            for number, row, flip in zip(rest, rows, flips):
                place = row[1 + (line ^ flip)]
                if number:
                    new_hearers[number - 1] = (place, hearers[number - 1][1] or flip == 1)
                else:
                    new_sender = place
            yield left - sum(flips), new_sender, tuple(new_hearers)
