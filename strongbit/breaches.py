"""The promises of a line that are broken at a moment.

In each function, had is a list of pairs (station, its frames in order), one for each station that is awake.
"""


def first_times(frames):
    """The frames of a station with the place at which each stands first, in this order."""
    firsts = {}
    for time, frame in enumerate(frames):
        firsts.setdefault(frame, time)
    return firsts


def broken_all(settled, had):
    """The settled frames that some stations have and some have not."""
    firsts = [first_times(frames) for station, frames in had]
    broken = []
    for frame in settled:
        many = len([1 for times in firsts if frame in times])
        if 0 < many < len(firsts):
            broken.append(("all", frame))
    return broken


def broken_once(had):
    """The frames that a station has more than once."""
    broken = []
    for station, frames in had:
        times_had = {}
        for frame in frames:
            times_had[frame] = times_had.get(frame, 0) + 1
        broken.extend([("once", frame, station) for frame, many in times_had.items() if many > 1])
    return broken


def broken_order(had):
    """The pairs of frames that two stations had first in different orders."""
    lesser_first = {}
    broken = {}
    for station, frames in had:
        times = first_times(frames)
        ascending = sorted(times)
        for index, frame in enumerate(ascending):
            for other in ascending[index + 1:]:
                is_first = times[frame] < times[other]
                if lesser_first.setdefault((frame, other), is_first) != is_first:
                    broken[(frame, other)] = True
    return [("order", frame, other) for frame, other in broken]


def broken_promises(settled, had):
    """All tuples of broken promises, ascending."""
    return sorted(broken_all(settled, had) + broken_once(had) + broken_order(had))
