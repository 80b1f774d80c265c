"""Explanations: the fewest wrong bits by which stations heard what their logs tell."""

from strongbit.alike import beginning
from strongbit.courses import LAST_FAULT_BIT
from strongbit.machines import is_number
from strongbit.searching import Search


def is_log(end, start, bits):
    """Whether any value is a tuple of bits that leads from a start to a word with its last bit, and not before."""
    if not isinstance(bits, tuple) or not all([is_number(bit) and bit in (0, 1) for bit in bits]):
        return False
    rows, place = beginning(end, start)
    for bit in bits:
        if not is_number(place):
            return False
        place = rows[place][1 + bit]
    return not is_number(place)


def bodies_for(end, log):
    """The rows in which a hearer with this log, or with None, can have started."""
    if log is None:
        return [0, 1]
    return [row for row, start in ((0, "right"), (1, "wrong")) if is_log(end, start, log)]


def beginnings(end, logs):
    """The tuples of rows in which all stations can have started."""
    if logs[0] is not None and not is_log(end, "sender", logs[0]):
        return []
    found = [(0,)]
    for log in logs[1:]:
        found = [(*places, row) for places in found for row in bodies_for(end, log)]
    return found


class Hearing:
    """What stations with these logs can hear, bit by bit. Places are a tuple of rows and words, the sender's first."""

    def __init__(self, end, logs):
        self.machines = [end.sender] + [end.hearer] * (len(logs) - 1)
        self.logs = logs
        self.most_bits = max([0] + [len(log) for log in logs if log is not None])

    def state(self, places, bits):
        """A key for what can still happen behind so many bits."""
        # Behind the last bit of all logs it does not matter how many bits there were.
        return min(bits, self.most_bits), places

    def line_bit_of(self, places):
        """The bit of the line at these places."""
        return min([1] + [rows[place][0] for rows, place in zip(self.machines, places) if is_number(place)])

    def heard_choices(self, station, line, bits):
        """The bits that a station on its way can hear behind so many bits, without a wrong bit first."""
        log = self.logs[station]
        if log is not None:
            return [log[bits]]
        return [line, 1 - line] if bits < LAST_FAULT_BIT else [line]

    def behind(self, places, bits):
        """The pairs (places behind one more bit, stations with a wrong bit) that can follow behind so many bits."""
        line = self.line_bit_of(places)
        found = [((), ())]
        for station, place in enumerate(places):
            if not is_number(place):
                found = [((*ahead, place), wrong) for ahead, wrong in found]
                continue
            row = self.machines[station][place]
            found = [((*ahead, row[1 + heard]), wrong if heard == line else (*wrong, station))
                     for ahead, wrong in found for heard in self.heard_choices(station, line, bits)]
        return found


def explained(end, logs):
    """The fewest wrong faults of an explanation of these logs, and such ones; None if there is none."""
    kept = [None if log is None else tuple(log) for log in logs]
    search = Search(Hearing(end, kept))
    for places in beginnings(end, kept):
        search.begin(places, tuple([station for station, row in enumerate(places) if row == 1]))
    last = search.cheapest_end()
    if last is None:
        return None
    wrong = tuple(search.faults_up_to(last))
    return len(wrong), wrong
