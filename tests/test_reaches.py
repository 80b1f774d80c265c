"""Ways to standings: each standing that can come about is shown by a sending, bit by bit ([18] to [20])."""

import unittest
from itertools import product

from strongbit.families import counted_end, voting_end
from strongbit.plays import Play
from strongbit.reaches import Reach
from strongbit.steps import faults_between

from plain import state_behind, written
from samples import random_ends, tiny


class TestSendings(unittest.TestCase):
    def check(self, end, wrong, silent, hearers):
        reach = Reach(end, wrong, silent, hearers)
        for standing in reach.moved:
            many, wrongs, silents = reach.sending_to(standing)
            bits = len(reach.path(standing)) - 1
            place = (str(end), wrong, silent, hearers, standing, many, wrongs, silents)
            faults = [(*fault, "wrong") for fault in wrongs] + [(*fault, "silent") for fault in silents]
            places, line, heard = state_behind(end, many, faults, bits)
            self.assertEqual(len(line), bits, place)
            hit = {station for bit, station in wrongs}
            hearing = [(places[station], station in hit) for station in range(1, many + 1)]
            sender = "silent" if places[0] is None else places[0]
            self.assertEqual(written(end, wrong - len(wrongs), sender, hearing), standing, place)
            self.assertTrue(silent or silents == (), place)
            self.assertTrue(hearers is None or many == hearers, place)

    def test_small_ends(self):
        for end in random_ends(161, 12, 4) + [tiny()]:
            for wrong, silent, hearers in product((0, 1, 2), (True, False), (None, 1, 2, 3, 7)):
                self.check(end, wrong, silent, hearers)

    def test_more_wrong_bits(self):
        for end in random_ends(162, 12, 5):
            for hearers in (None, 3, 19):
                self.check(end, 3, False, hearers)
        for end in random_ends(163, 3, 3):
            self.check(end, 3, True, 4)

    def test_stations_are_where_the_sending_has_them(self):
        for end in random_ends(164, 8, 5):
            for wrong, silent, hearers in product((1, 2), (True, False), (2, 4)):
                reach = Reach(end, wrong, silent, hearers)
                for standing in reach.moved:
                    path = reach.path(standing)
                    play = Play(end, hearers, len(path[0][4]))
                    for one, behind in zip(path, path[1:]):
                        play.pass_bit_with(*faults_between(end, one, behind, silent), one[3])
                    faults = [(*fault, "wrong") for fault in play.wrong_faults()]
                    faults += [(*fault, "silent") for fault in play.silent_faults()]
                    places, line, heard = state_behind(end, hearers, faults, len(path) - 1)
                    self.assertEqual(play.course.places, dict(enumerate(places)), (str(end), standing))
                    self.assertEqual(play.course.line_bits, line)

    def test_families(self):
        for end in (voting_end(3, needed=2), counted_end(2, hearer=1, sender=2, flag=2, gap=2)):
            for wrong, silent, hearers in product((1, 2), (True, False), (None, 2, 5)):
                self.check(end, wrong, silent, hearers)


if __name__ == "__main__":
    unittest.main()
