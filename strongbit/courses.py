"""The course of a sending, bit by bit, for stations with any numbers."""

from strongbit.errors import BadFault, Endless
from strongbit.machines import is_number

# The last bit at which a fault is possible.
LAST_FAULT_BIT = 5000


class Course:
    """A sending under way. The place of a station is its row or its word, None once it is silent."""

    def __init__(self, end, sender, hearers):
        self.sending_station = sender
        self.machines = {station: end.hearer for station in hearers}
        self.machines[sender] = end.sender
        self.places = {station: 0 for station in self.machines}
        self.line_bits = []
        self.heard_bits = {station: [] for station in self.machines}

    def is_on_its_way(self, station):
        """Whether a station is one of the sending and on its way."""
        return is_number(self.places.get(station))

    def on_their_way(self):
        """The stations that are on their way."""
        return [station for station, place in self.places.items() if is_number(place)]

    def pass_body(self, wrong):
        """Bit 0: these hearers hear the body wrongly."""
        for station in wrong:
            self.places[station] = 1

    def pass_bit(self, wrong, silent):
        """One more bit, which is a wrong one of some stations, and at which others fall silent."""
        for station in silent:
            self.places[station] = None
        hearing = self.on_their_way()
        line = min([1] + [self.machines[station][self.places[station]][0] for station in hearing])
        for station in hearing:
            heard = 1 - line if station in wrong else line
            self.heard_bits[station].append(heard)
            self.places[station] = self.machines[station][self.places[station]][1 + heard]
        self.line_bits.append(line)

    def can_have_fault(self, bit, station, sort):
        """Whether a station can have a fault at the next bit, or at the body before all bits."""
        if not self.is_on_its_way(station):
            return False
        return bit > 0 or (sort == "wrong" and station != self.sending_station)


def faults_at_bits(wrong, silent):
    """The faults of each bit, ascending: a dict from bits to lists of pairs (station, sort)."""
    faults = sorted([(bit, station, "wrong") for bit, station in wrong]
                    + [(bit, station, "silent") for bit, station in silent])
    at_bits = {}
    for bit, station, sort in faults:
        at_bits.setdefault(bit, []).append((station, sort))
    return at_bits


def check_faults(course, bit, faults):
    """Raise BadFault at the first of the faults of a bit that is not possible."""
    stations = [station for station, sort in faults]
    for station, sort in faults:
        possible = 0 <= bit <= LAST_FAULT_BIT and course.can_have_fault(bit, station, sort)
        if not possible or stations.count(station) > 1:
            raise BadFault(bit, station)


def pass_faults(course, at_bits):
    """The bits up to the last one with a fault."""
    for bit, faults in at_bits.items():
        # No fault is possible behind the last fault bit, so an endless sending need not go on until there.
        while len(course.line_bits) < min(bit, LAST_FAULT_BIT) - 1 and course.on_their_way():
            course.pass_bit([], [])
        check_faults(course, bit, faults)
        wrong = [station for station, sort in faults if sort == "wrong"]
        silent = [station for station, sort in faults if sort == "silent"]
        if bit == 0:
            course.pass_body(wrong)
        else:
            course.pass_bit(wrong, silent)


def pass_rest(course):
    """The bits behind the last one with a fault, up to the end. Raises Endless if there is none."""
    met = {}
    while course.on_their_way():
        bit = len(course.line_bits)
        state = tuple(course.places.values())
        if state in met:
            raise Endless(met[state], bit - met[state])
        met[state] = bit
        course.pass_bit([], [])


def run(end, sender, hearers, wrong, silent):
    """The course of a whole sending. Raises BadFault, then Endless."""
    course = Course(end, sender, hearers)
    pass_faults(course, faults_at_bits(wrong, silent))
    pass_rest(course)
    return course
