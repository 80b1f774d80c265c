"""Families of ends: promises 6, 7 and 8."""

import inspect
import random
import unittest
from itertools import product

from strongbit import families
from strongbit.alike import least, shown
from strongbit.ends import End
from strongbit.families import counted_end, standard_end, voting_end, voting_weakness
from strongbit.standings import is_over, standings

from samples import STARTS, TINY_TEXT, all_bits

WORDS = {"right": ("taken", "lost"), "wrong": ("taken", "lost"), "sender": ("done", "again")}


class CountedStation:
    """A station at a counted end, told as the document tells it."""

    def __init__(self, bits, limit, flag, gap, start):
        self.bits, self.limit, self.flag, self.gap = bits, limit, flag, gap
        self.good, self.bad = WORDS[start]
        self.at_end_bits = start != "wrong"
        self.flag_left = 0 if self.at_end_bits else flag
        self.settled = None if self.at_end_bits else self.bad
        self.heard = 0
        self.weak = 0
        self.word = None

    def hear(self, bit):
        self.heard += 1
        if self.at_end_bits:
            if bit == 0:
                self.settled = self.bad if self.heard <= self.limit else self.good
                self.at_end_bits, self.flag_left = False, self.flag
            elif self.heard == self.bits:
                self.word = self.good
        elif self.flag_left > 0:
            self.flag_left -= 1
        elif bit == 1:
            self.weak += 1
            if self.weak == self.gap:
                self.word = self.settled
        elif self.weak > 0:
            self.weak, self.flag_left = 0, self.flag

    def shows(self):
        return ("word", self.word) if self.word else ("put", 0 if self.flag_left else 1)


class VotingStation:
    """A station at a voting end, told as the document tells it."""

    def __init__(self, votes, needed, rounds, start):
        self.votes, self.needed, self.rounds = votes, needed, rounds
        self.good, self.bad = WORDS[start]
        self.warned = start == "wrong"
        self.turn, self.heard = 1, []
        self.word = None

    def hear(self, bit):
        self.heard.append(bit)
        if len(self.heard) == self.votes:
            self.warned = self.warned or self.heard.count(0) >= self.needed
            if self.turn == self.rounds:
                self.word = self.bad if self.warned else self.good
            self.turn, self.heard = self.turn + 1, []

    def shows(self):
        return ("word", self.word) if self.word else ("put", 0 if self.warned else 1)


def shown_by(station, bits):
    """What a station shows behind these bits."""
    for bit in bits:
        if station.word:
            break
        station.hear(bit)
    return station.shows()


def breaks(end, promise, wrong, silent):
    """Whether an outcome is possible that breaks a promise, as the document tells in [23]."""
    for left, word, crowd, many, hit in [standing for standing in standings(end, wrong, silent=silent)
                                         if is_over(standing)]:
        words = {crowd, *hit} - {None}
        if promise == "once" and word == "again" and "taken" in words:
            return True
        if promise == "all" and word == "done" and "lost" in words:
            return True
        if promise == "all" and silent and word != "done" and len(words) == 2:
            return True
    return False


def weakness(end, promise, silent, most):
    """The least number of wrong bits up to most within which a promise is broken."""
    return next((wrong for wrong in range(most + 1) if breaks(end, promise, wrong, silent)), None)


class TestCountedRows(unittest.TestCase):
    def test_least_numbers(self):
        end = counted_end(1, hearer=1, sender=1, flag=1, gap=1)
        self.assertEqual(str(end), "1 1 taken, 0 2 2, 1 2 lost | 1 1 done, 0 2 2, 1 2 again")

    def test_two_end_bits(self):
        end = counted_end(2, hearer=1, sender=2, flag=1, gap=2)
        # Behind the first bit 1 of its gap, the late flag is as it was ahead of the last end bit.
        self.assertEqual(str(end), "1 1 2, 0 3 3, 1 4 taken, 1 3 5, 0 6 6, 1 1 lost, 1 6 2"
                                   " | 1 1 2, 0 3 3, 1 1 done, 1 3 4, 1 1 again")

    def test_longer_flag(self):
        end = counted_end(1, hearer=1, sender=1, flag=3, gap=1)
        self.assertEqual(str(end), "1 1 taken, 0 2 2, 0 3 3, 0 4 4, 1 4 lost | 1 1 done, 0 2 2, 0 3 3, 0 4 4, 1 4 again")

    def test_sender_with_a_lesser_limit(self):
        end = counted_end(2, hearer=2, sender=1, flag=1, gap=1)
        self.assertEqual(str(end), "1 1 2, 0 3 3, 1 1 taken, 1 3 lost"
                                   " | 1 1 2, 0 3 3, 1 4 done, 1 3 again, 0 5 5, 1 5 done")

    def test_standard_end(self):
        end = standard_end()
        self.assertEqual(end, counted_end(7, hearer=6, sender=7, flag=6, gap=8))
        self.assertEqual(repr(end), "End(34 hearer rows, 21 sender rows)")
        # Six end bits lead to the flag with "lost", the seventh to the one with "taken".
        self.assertEqual(shown(end, "right", (1,) * 7), ("word", "taken"))
        self.assertEqual(shown(end, "right", (1,) * 5 + (0,) + (0,) * 6 + (1,) * 8), ("word", "lost"))
        self.assertEqual(shown(end, "right", (1,) * 6 + (0,) + (0,) * 6 + (1,) * 8), ("word", "taken"))
        self.assertEqual(shown(end, "sender", (1,) * 6 + (0,) + (0,) * 6 + (1,) * 8), ("word", "again"))
        self.assertEqual(shown(end, "sender", (1,) * 6 + (0,) + (0,) * 6 + (1,) * 7), ("put", 1))

    def test_a_flag_is_put_whatever_is_heard(self):
        end = counted_end(3, hearer=2, sender=3, flag=2, gap=2)
        for bits in product((0, 1), repeat=2):
            self.assertEqual(shown(end, "sender", (0, *bits)), ("put", 1))
            self.assertEqual(shown(end, "sender", (0, *bits, 1, 1)), ("word", "again"))
        self.assertEqual(shown(end, "sender", (0, 1)), ("put", 0))

    def test_a_strong_bit_ahead_of_the_gap_only_waits(self):
        end = counted_end(1, hearer=1, sender=1, flag=2, gap=2)
        self.assertEqual(shown(end, "wrong", (0, 0, 0, 0, 0, 1, 1)), ("word", "lost"))
        self.assertEqual(shown(end, "wrong", (0, 0, 0)), ("put", 1))
        # Behind one of the bits of the gap it leads to a new flag.
        self.assertEqual(shown(end, "wrong", (0, 0, 1, 0)), ("put", 0))
        self.assertEqual(shown(end, "wrong", (0, 0, 1, 0, 1, 1, 1)), ("put", 1))
        self.assertEqual(shown(end, "wrong", (0, 0, 1, 0, 1, 1, 1, 1)), ("word", "lost"))


class TestCountedArguments(unittest.TestCase):
    def test_by_position_and_by_name(self):
        end = counted_end(3, hearer=2, sender=3, flag=6, gap=8)
        self.assertEqual(counted_end(3, hearer=2, sender=3), end)
        self.assertEqual(counted_end(gap=8, sender=3, bits=3, hearer=2), end)
        self.assertEqual(counted_end(3, flag=6, sender=3, hearer=2), end)
        self.assertNotEqual(counted_end(3, hearer=3, sender=2), end)

    def test_signatures(self):
        self.assertEqual(str(inspect.signature(counted_end)), "(bits, *, hearer, sender, flag=6, gap=8)")
        self.assertEqual(str(inspect.signature(standard_end)), "()")
        self.assertEqual(str(inspect.signature(voting_end)), "(votes, *, needed, rounds=1)")
        self.assertEqual(str(inspect.signature(voting_weakness)), "(votes, *, needed, rounds=1, silent=True)")

    def test_what_follows_the_star_has_a_name(self):
        with self.assertRaises(TypeError):
            counted_end(3, 2, 3)
        with self.assertRaises(TypeError):
            counted_end(3, hearer=2)
        with self.assertRaises(TypeError):
            voting_end(3, 2)
        with self.assertRaises(TypeError):
            voting_weakness(3, 2)

    def test_defined_here(self):
        for function in (counted_end, standard_end, voting_end, voting_weakness):
            self.assertEqual(function.__module__, families.__name__)

    def test_each_call_gives_the_same_end(self):
        self.assertEqual(counted_end(4, hearer=1, sender=3), counted_end(4, hearer=1, sender=3))
        self.assertIsInstance(standard_end(), End)


class TestCountedStations(unittest.TestCase):
    def check(self, numbers, bits_of_tests):
        bits, hearer, sender, flag, gap = numbers
        end = counted_end(bits, hearer=hearer, sender=sender, flag=flag, gap=gap)
        self.assertEqual(least(end), end, numbers)
        for heard in bits_of_tests:
            for start in STARTS:
                limit = sender if start == "sender" else hearer
                station = CountedStation(bits, limit, flag, gap, start)
                self.assertEqual(shown(end, start, heard), shown_by(station, heard), (numbers, start, heard))

    def test_small_numbers(self):
        for bits, flag, gap in product((1, 2, 3), (1, 2, 3), (1, 2, 3)):
            for hearer, sender in product(range(1, bits + 1), repeat=2):
                self.check((bits, hearer, sender, flag, gap), list(all_bits(7)))

    def test_greatest_numbers(self):
        source = random.Random(61)
        for numbers in [(10, 10, 10, 8, 8), (10, 1, 10, 8, 8), (10, 10, 1, 8, 8), (10, 1, 1, 8, 8), (10, 9, 10, 1, 8),
                        (10, 5, 6, 8, 1), (1, 1, 1, 8, 8), (10, 9, 8, 1, 1), (7, 6, 7, 6, 8)]:
            tests = []
            for length in range(60):
                weak = source.choice((2, 6, 15))
                tests.append(tuple([0 if source.randrange(weak) == 0 else 1 for index in range(length)]))
            self.check(numbers, tests + [(1,) * length for length in range(12)])

    def test_all_arguments_come_in_least_form(self):
        for bits, flag, gap in product((1, 4, 10), (1, 8), (1, 8)):
            for hearer, sender in product(range(1, bits + 1), repeat=2):
                end = counted_end(bits, hearer=hearer, sender=sender, flag=flag, gap=gap)
                self.assertEqual(least(end), end)


class TestVotingRows(unittest.TestCase):
    def test_one_vote(self):
        self.assertEqual(str(voting_end(1, needed=1)), TINY_TEXT)

    def test_two_votes(self):
        self.assertEqual(str(voting_end(2, needed=2)), "1 2 3, 0 4 4, 1 lost taken, 1 taken taken, 0 lost lost"
                                                       " | 1 1 2, 1 again done, 1 done done")
        self.assertEqual(str(voting_end(2, needed=1)), "1 2 3, 0 4 4, 1 lost lost, 1 lost taken, 0 lost lost"
                                                       " | 1 1 2, 1 again again, 1 again done")

    def test_two_rounds(self):
        self.assertEqual(str(voting_end(1, needed=1, rounds=2)), "1 2 3, 0 2 2, 0 lost lost, 1 lost taken"
                                                                 " | 1 1 2, 0 again again, 1 again done")

    def test_by_position_and_by_name(self):
        end = voting_end(3, needed=2, rounds=1)
        self.assertEqual(voting_end(3, needed=2), end)
        self.assertEqual(voting_end(rounds=1, needed=2, votes=3), end)
        self.assertNotEqual(voting_end(3, needed=2, rounds=2), end)

    def test_stations(self):
        source = random.Random(71)
        for votes in range(1, 7):
            for needed, rounds in product(range(1, votes + 1), (1, 2, 3)):
                end = voting_end(votes, needed=needed, rounds=rounds)
                self.assertEqual(least(end), end)
                tests = [tuple([source.choice((0, 1, 1)) for index in range(source.randint(0, votes * rounds + 1))])
                         for number in range(60)]
                tests += [(0,) * (votes * rounds), (1,) * (votes * rounds), (1,) * (votes * rounds - 1) + (0,)]
                for heard, start in product(tests, STARTS):
                    station = VotingStation(votes, needed, rounds, start)
                    self.assertEqual(shown(end, start, heard), shown_by(station, heard), (end, start, heard))


class TestVotingWeakness(unittest.TestCase):
    def test_numbers(self):
        self.assertEqual(voting_weakness(1, needed=1), 1)
        self.assertEqual(voting_weakness(6, needed=4), 2)
        self.assertEqual(voting_weakness(6, needed=1), 1)
        self.assertEqual(voting_weakness(6, needed=6, rounds=3), 4)
        self.assertEqual(voting_weakness(4, needed=3, rounds=2), 3)
        self.assertEqual(voting_weakness(6, needed=4, silent=False), 4)
        self.assertEqual(voting_weakness(6, needed=5, silent=False), 3)
        self.assertEqual(voting_weakness(6, needed=6, silent=False), 2)
        self.assertEqual(voting_weakness(6, needed=6, rounds=2, silent=False), 3)
        self.assertEqual(voting_weakness(6, needed=6, rounds=3, silent=False), 4)
        self.assertEqual(voting_weakness(votes=6, silent=False, rounds=3, needed=2), 2)

    def test_the_ends_are_as_weak(self):
        for votes in range(1, 5):
            for needed, rounds, silent in product(range(1, votes + 1), (1, 2, 3), (True, False)):
                expected = voting_weakness(votes, needed=needed, rounds=rounds, silent=silent)
                end = voting_end(votes, needed=needed, rounds=rounds)
                if expected > 3:
                    continue
                for promise in ("all", "once"):
                    self.assertEqual(weakness(end, promise, silent, 3), expected, (votes, needed, rounds, silent))


if __name__ == "__main__":
    unittest.main()
