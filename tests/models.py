"""Slow models of outcomes, counts, histories and explanations: all of them, gone through one by one."""

import random
from itertools import combinations

from strongbit.ends import End
from strongbit.errors import BadEnd
from strongbit.sendings import sending

from plain import PlainLine, follow
from samples import random_end


def subsets(items, most):
    """The tuples of at most so many of these items, in their order."""
    for many in range(min(most, len(items)) + 1):
        yield from combinations(items, many)


def forward_machine(source, size, words):
    """A machine in which only later rows and words follow, so that there are no rings."""
    return [(source.randrange(2), source.choice([*range(index + 1, size), *words]),
             source.choice([*range(index + 1, size), *words])) for index in range(size)]


def forward_ends(seed, many, most):
    """So many ends without rings, the same ones each time."""
    source = random.Random(seed)
    found = []
    while len(found) < many:
        try:
            found.append(End(forward_machine(source, source.randint(2, most), ("taken", "lost")),
                             forward_machine(source, source.randint(1, most - 1), ("done", "again"))))
        except BadEnd:
            continue
    return found


def ends_well(end):
    """Whether a sending with one hearer and without faults ends with "done" and "taken"."""
    sender, hearer = 0, 0
    for bit in range(len(end.hearer) * len(end.sender) + 200):
        puts = [rows[place][0] for rows, place in ((end.sender, sender), (end.hearer, hearer))
                if isinstance(place, int)]
        if not puts:
            return (sender, hearer) == ("done", "taken")
        sender = follow(end.sender, sender, min(puts)) if isinstance(sender, int) else sender
        hearer = follow(end.hearer, hearer, min(puts)) if isinstance(hearer, int) else hearer
    return False


def sound_ends(seed, many, most, forward=False):
    """So many sound ends, of which no two are the same."""
    source = random.Random(seed)
    found = []
    while len(found) < many:
        end = forward_ends(source.randrange(10 ** 9), 1, most)[0] if forward else random_end(source, most)
        if ends_well(end) and end not in found:
            found.append(end)
    return found


def all_faults(end, hearers, wrong, silent):
    """All pairs (wrong faults, silent faults) of sendings with so many hearers. For ends without rings."""
    ahead = [((0,) + tuple(1 if station in bodies else 0 for station in range(1, hearers + 1)), 1,
              [(0, station) for station in bodies], [])
             for bodies in subsets(range(1, hearers + 1), wrong)]
    rows = [end.sender] + [end.hearer] * hearers
    while ahead:
        places, bit, wrongs, silents = ahead.pop()
        assert bit < 40
        going = [station for station, place in enumerate(places) if isinstance(place, int)]
        if not going:
            yield wrongs, silents
            continue
        for falls in subsets(going, len(going) if silent else 0):
            rest = [station for station in going if station not in falls]
            line = min([1] + [rows[station][places[station]][0] for station in rest])
            for flips in subsets(rest, wrong - len(wrongs)):
                behind = list(places)
                for station in falls:
                    behind[station] = None
                for station in rest:
                    behind[station] = follow(rows[station], places[station], line ^ (station in flips))
                ahead.append((tuple(behind), bit + 1, wrongs + [(bit, station) for station in flips],
                              silents + [(bit, station) for station in falls]))


def all_sendings(end, hearers, wrong, silent):
    """All triples (number of wrong bits, number of silences, sending) with so many hearers."""
    for wrongs, silents in all_faults(end, hearers, wrong, silent):
        yield len(wrongs), len(silents), sending(end, hearers, wrong=wrongs, silent=silents)


def line_key(line):
    """All of a line that tells what can still happen on it."""
    return (tuple(line.awake()), tuple(line.waiting()), tuple(sorted(line.offered())),
            tuple(tuple(line.has(station)) for station in range(line.stations)))


def next_deeds(end, line, wrong, silent, frames):
    """The deeds that can be done next on a line, with these frames. For ends without rings."""
    awake = line.awake()
    deeds = [("offer", station, frame) for station in awake for frame in frames if frame not in line.offered()]
    if silent:
        deeds.extend(("fall", station) for station in awake)
    if line.waiting() and len(awake) > 1:
        sender = line.waiting()[0][1]
        numbers = [sender] + [station for station in awake if station != sender]
        for wrongs, silents in all_faults(end, len(awake) - 1, wrong, silent):
            deeds.append(("send", tuple(sorted((bit, numbers[station]) for bit, station in wrongs)),
                          tuple(sorted((bit, numbers[station]) for bit, station in silents))))
    return deeds


def fewest_to_break(end, stations, wrong, silent, longest, frames=(0, 1)):
    """For each promise the fewest wrong bits of a history of at most so many deeds that breaks it."""
    best = {}
    layer = {line_key(PlainLine(end, stations)): (0, PlainLine(end, stations))}
    for number in range(longest):
        behind = {}
        for cost, line in layer.values():
            for deed in next_deeds(end, line, wrong, silent, frames):
                after = PlainLine(end, stations)
                after.deeds, after.results = list(line.deeds), list(line.results)
                assert after.tell(deed)[0] == "did"
                new_cost = cost + (len(deed[1]) if deed[0] == "send" else 0)
                key = line_key(after)
                if key not in behind or behind[key][0] > new_cost:
                    behind[key] = new_cost, after
        for cost, line in behind.values():
            for broken in line.broken():
                best[broken[0]] = min(best.get(broken[0], cost), cost)
        layer = behind
    return best
