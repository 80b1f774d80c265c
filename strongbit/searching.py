"""The search for the fewest wrong bits with which a sending ends."""

from strongbit.machines import is_number


class Moment:
    """Places behind some bits, the stations with a wrong bit at the last of them, and the moment ahead of it."""

    def __init__(self, places, bits, wrong, earlier):
        self.places = places
        self.bits = bits
        self.wrong_ones = wrong
        self.earlier = earlier


class Search:
    """Moments by their number of wrong bits, and those with equally many by their number of bits."""

    def __init__(self, hearing):
        self.hearing = hearing
        self.levels = []
        self.fewest_bits = {}

    def put(self, moment, cost):
        """Keep a moment with so many wrong bits so far."""
        while len(self.levels) <= cost:
            self.levels.append([])
        while len(self.levels[cost]) <= moment.bits:
            self.levels[cost].append([])
        self.levels[cost][moment.bits].append(moment)

    def begin(self, places, wrong):
        """A moment ahead of bit 1, with the hearers that heard the body wrongly."""
        self.put(Moment(places, 0, wrong, None), len(wrong))

    def is_late(self, moment):
        """Whether the same was met with at most as many wrong bits and behind at most as many bits."""
        # Behind fewer bits all is possible that is possible behind more, but not the other way around:
        # bits above the last one at which faults are possible cannot be wrong.
        state = self.hearing.state(moment.places, moment.bits)
        return state in self.fewest_bits and self.fewest_bits[state] <= moment.bits

    def cheapest_end(self):
        """A moment with the fewest wrong bits at which nobody is on its way, or None."""
        cost = 0
        while cost < len(self.levels):
            bits = 0
            while bits < len(self.levels[cost]):
                for moment in list(self.levels[cost][bits]):
                    if not any([is_number(place) for place in moment.places]):
                        return moment
                    if not self.is_late(moment):
                        self.go_on(moment, cost)
                bits += 1
            cost += 1
        return None

    def go_on(self, moment, cost):
        """Keep the moments behind one more bit that are not late."""
        self.fewest_bits[self.hearing.state(moment.places, moment.bits)] = moment.bits
        for places, wrong in self.hearing.behind(moment.places, moment.bits):
            behind = Moment(places, moment.bits + 1, wrong, moment)
            if not self.is_late(behind):
                self.put(behind, cost + len(wrong))

    def faults_up_to(self, last):
        """The wrong faults up to a moment, ascending."""
        found = []
        moment = last
        while moment is not None:
            found = [(moment.bits, station) for station in moment.wrong_ones] + found
            moment = moment.earlier
        return found
