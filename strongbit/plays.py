"""Sendings with stations that have numbers, played after the moves of standings."""

from strongbit.courses import Course
from strongbit.deeds import ordered_faults
from strongbit.steps import place_order


def marked(stations, marks):
    """The stations whose mark is 1."""
    return [station for station, mark in zip(stations, marks) if mark == 1]


class Play:
    """A sending in which the hearers with the least numbers, so many as bodies, heard the body wrongly."""

    def __init__(self, end, hearers, bodies):
        self.course = Course(end, 0, list(range(1, hearers + 1)))
        self.hit = list(range(1, bodies + 1))
        self.crowd = list(range(bodies + 1, hearers + 1))
        self.course.pass_body(self.hit)
        self.wrong_list = [(0, station) for station in self.hit]
        self.silent_list = []

    def in_order(self, stations):
        """Stations in the order in which a standing has their places."""
        places = self.course.places
        return sorted(stations, key=lambda station: place_order(places[station]))

    def pass_bit_with(self, falls, wrongs, many):
        """One more bit, with silences and wrong bits as they are told of a standing with so many in its crowd."""
        sender_falls, hit_falls, kept = falls
        # Many may stand for all greater numbers, so what it keeps tells a number only if it becomes less.
        crowd_silent = self.crowd[kept:] if kept < many else []
        silent = marked([0], [sender_falls]) + marked(self.in_order(self.hit), hit_falls) + crowd_silent
        hit = [station for station in self.hit if station not in silent]
        crowd = [station for station in self.crowd if station not in silent]
        sender_wrong, hit_wrong, of_crowd = wrongs
        wrong = marked([0], [sender_wrong]) + marked(self.in_order(hit), hit_wrong) + crowd[:of_crowd]
        self.course.pass_bit(wrong, silent)
        bit = len(self.course.line_bits)
        self.wrong_list.extend([(bit, station) for station in wrong])
        self.silent_list.extend([(bit, station) for station in silent])
        self.hit = hit + crowd[:of_crowd]
        self.crowd = crowd[of_crowd:]

    def wrong_faults(self):
        """The wrong faults so far."""
        return ordered_faults(self.wrong_list)

    def silent_faults(self):
        """The silent faults so far."""
        return ordered_faults(self.silent_list)
