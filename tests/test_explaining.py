"""Promise [25]: logs and explanations."""

import random
import unittest
from itertools import combinations, product

from strongbit.ends import End
from strongbit.errors import BadFault, Endless
from strongbit.explaining import explained, is_log
from strongbit.families import counted_end, standard_end, voting_end
from strongbit.sendings import sending

from models import all_faults, forward_ends
from plain import follow
from samples import ODD_VALUES, STARTS, all_bits, random_ends, tiny


def plain_is_log(end, start, bits):
    """Whether a tuple of 0 and 1 leads to a word with its last bit."""
    rows, place = {"right": (end.hearer, 0), "wrong": (end.hearer, 1), "sender": (end.sender, 0)}[start]
    for index, bit in enumerate(bits):
        place = follow(rows, place, bit)
        if isinstance(place, str):
            return index == len(bits) - 1
    return False


def hidden(logs):
    """These logs with none, one or two of them left out."""
    for many in (0, 1, 2):
        for left_out in combinations(range(len(logs)), many):
            yield tuple(None if station in left_out else log for station, log in enumerate(logs))


def fewest_of_all(end, hearers):
    """The fewest wrong faults for all logs that any sending gives, with some of them left out."""
    found = {}
    for wrong, silent in all_faults(end, hearers, 1000, False):
        one = sending(end, hearers, wrong=wrong)
        for logs in hidden([one.heard(station) for station in range(hearers + 1)]):
            found[logs] = min(found.get(logs, len(wrong)), len(wrong))
    return found


class TestExplained(unittest.TestCase):
    def check(self, end, logs):
        """The number of an explanation that is seen to explain the logs; None if there is none."""
        told = explained(end, logs)
        if told is None:
            return None
        number, wrong = told
        place = (str(end), logs, told)
        self.assertIs(type(told), tuple)
        self.assertIs(type(wrong), tuple)
        self.assertEqual(number, len(wrong), place)
        self.assertEqual(list(wrong), sorted(set(wrong)), place)
        one = sending(end, len(logs) - 1, wrong=wrong)
        for station, log in enumerate(logs):
            if log is not None:
                self.assertEqual(one.heard(station), tuple(log), place)
        self.assertEqual(explained(end, logs), told)
        return number

    def test_the_example_of_the_document(self):
        self.assertEqual(explained(tiny(), [(1,), None, (0,)]), (1, ((1, 2),)))

    def test_all_faults_of_few_stations(self):
        for end in forward_ends(111, 30, 4):
            for hearers in (1, 2):
                bits = max(len(sending(end, hearers, wrong=wrong))
                           for wrong, silent in all_faults(end, hearers, 2, False))
                if hearers == 2 and bits > 3:
                    continue
                for logs, number in fewest_of_all(end, hearers).items():
                    self.assertEqual(self.check(end, logs), number, (str(end), logs))

    def test_three_hearers(self):
        for end in [tiny()] + forward_ends(112, 4, 2):
            for logs, number in fewest_of_all(end, 3).items():
                self.assertEqual(self.check(end, logs), number, (str(end), logs))

    def test_logs_that_no_sending_gives(self):
        for end in forward_ends(113, 20, 3):
            found = fewest_of_all(end, 1)
            for logs in product([None, *all_bits(3)], repeat=2):
                self.assertEqual(self.check(end, logs), found.get(logs), (str(end), logs))

    def test_clean_sendings_need_no_faults(self):
        for end in random_ends(114, 60, 4) + [standard_end(), voting_end(4, needed=2, rounds=2)]:
            for hearers in (1, 2, 5):
                try:
                    one = sending(end, hearers)
                except Endless:
                    continue
                logs = [one.heard(station) for station in range(hearers + 1)]
                if all(len(log) <= 40 for log in logs):
                    for some in hidden(logs):
                        self.assertEqual(explained(end, list(some)), (0, ()))

    def test_no_more_faults_than_were_there(self):
        source = random.Random(115)
        for end in random_ends(115, 80, 5) + [counted_end(2, hearer=1, sender=2, flag=2, gap=2), standard_end()] * 5:
            hearers = source.choice([1, 2, 3, 5])
            faults = sorted({(source.randrange(0, 6), source.randrange(hearers + 1)) for number in range(3)})
            try:
                one = sending(end, hearers, wrong=faults)
            except (BadFault, Endless):
                continue
            logs = [one.heard(station) for station in range(hearers + 1)]
            if all(len(log) <= 40 for log in logs):
                for some in hidden(logs):
                    self.assertLessEqual(self.check(end, list(some)), len(faults))

    def test_none_with_fewer_faults_in_ends_with_rings(self):
        source = random.Random(116)
        for end in random_ends(116, 150, 3):
            logs = [source.choice([None, None] + [bits for bits in all_bits(4) if plain_is_log(end, start, bits)])
                    for start in ("sender", "right", "wrong")]
            if logs.count(None) > 2:
                continue
            number = self.check(end, logs)
            for few in range(min(3, 3 if number is None else number)):
                for faults in combinations(list(product(range(6), range(3))), few):
                    try:
                        one = sending(end, 2, wrong=faults)
                    except (BadFault, Endless):
                        continue
                    self.assertFalse(all(log is None or one.heard(station) == log for station, log in enumerate(logs)),
                                     (str(end), logs, faults))

    def test_bodies_are_not_told_by_logs(self):
        # The log of a hearer fits both bodies, and a wrong one tells why all heard 0.
        self.assertEqual(explained(tiny(), [(0,), (0,), (0,)])[0], 1)
        self.assertIn(explained(tiny(), [(0,), (0,), (0,)])[1], [((0, 1),), ((0, 2),)])
        self.assertEqual(self.check(tiny(), [(0,), (0,), (0,), (0,), (0,), (0,)]), 1)
        self.assertEqual(self.check(tiny(), [(1,), (0,), (0,), (0,), (0,), (0,)]), 2)
        self.assertEqual(self.check(tiny(), [(0,), (1,), (1,)]), 1)
        self.assertEqual(self.check(tiny(), [(1,), (1,), (0,), (0,)]), 2)

    def test_stations_without_a_log(self):
        self.assertEqual(explained(tiny(), [None, None]), (0, ()))
        self.assertEqual(explained(tiny(), [None, (1,), None]), (0, ()))
        # A station without a log that heard the body wrongly tells why all others heard 0.
        self.assertEqual(self.check(tiny(), [(0,), None]), 1)
        self.assertEqual(explained(tiny(), [(0,), (0,), None, (0,), (0,)])[0], 1)
        self.assertEqual(explained(tiny(), [(0,), (1,), None, (0,), (0,)])[0], 2)
        self.assertEqual(explained(tiny(), [None, (1,), None, (0,), (0,)])[0], 2)

    def test_stations_without_a_log_go_on_behind_the_others(self):
        end = End([(1, 2, "taken"), (0, "lost", "lost"), (1, 3, 3), (1, 4, 4), (1, "lost", 4)], [(1, "again", "done")])
        # The hearer heard 0 at bit 1, waits up to bit 4 and needs a wrong bit to leave its ring.
        self.assertEqual(explained(end, [(1,), (0, 1, 1, 0)]), (2, ((1, 1), (4, 1))))
        self.assertEqual(explained(end, [(1,), (0, 1, 1, 1, 0)]), (2, ((1, 1), (5, 1))))
        self.assertEqual(explained(end, [(1,), None]), (0, ()))
        self.assertEqual(self.check(end, [(0,), None]), 1)
        # The sender puts 0 for ever, and only this way the hearer without a log comes to an end.
        calling = End([(1, 2, 2), (1, "lost", "lost"), (1, "taken", 2)], [(1, 1, 1), (0, "done", "done")])
        self.assertEqual(explained(calling, [(1, 0), None]), (0, ()))
        self.assertEqual(self.check(calling, [(1, 1), None]), 1)
        self.assertEqual(explained(calling, [(1, 1), (1, 1, 0)]), (3, ((2, 0), (2, 1), (3, 1))))

    def test_no_end(self):
        end = End([(1, 0, 0), (1, "lost", "lost")], [(1, 0, 0)])
        self.assertIsNone(explained(end, [None, None]))
        self.assertIsNone(explained(end, [None, (0,)]))
        end = End([(1, 0, 0), (1, "lost", "lost")], [(1, "again", "done")])
        self.assertEqual(explained(end, [None, None]), (1, ((0, 1),)))
        self.assertEqual(explained(end, [(1,), None, (1,)]), (2, ((0, 1), (0, 2))))

    def test_logs_that_are_none_of_their_station(self):
        for logs in ([(), (1,)], [(1, 1), (1,)], [(1,), ()], [(1,), (0, 0)], [None, (1, 1)], [(1,), None, ()]):
            self.assertIsNone(explained(tiny(), logs))
        one = sending(standard_end(), 1, wrong=[(3, 1)])
        self.assertEqual(explained(standard_end(), [one.heard(0), one.heard(1)]), (1, ((3, 1),)))
        self.assertIsNone(explained(standard_end(), [one.heard(0), one.heard(1)[:-1]]))
        self.assertIsNone(explained(standard_end(), [one.heard(0), one.heard(1) + (1,)]))
        self.assertIsNone(explained(standard_end(), [one.heard(0)[:-1], None]))

    def test_faults_are_possible_up_to_bit_5000_only(self):
        # Both rings meet at bit 4998, and the hearer waits from bit 5000 on.
        self.assertEqual(explained(meeting(0, 50), [None, None]), (1, ((5000, 1),)))
        # Both rings meet at bit 4999, so the hearer waits from bit 5001 on unless it hears a wrong bit before.
        number, wrong = explained(meeting(1, 51), [None, None])
        self.assertEqual(number, 2)
        self.assertLess(wrong[0][0], 100)
        self.assertEqual(len(sending(meeting(1, 51), 1, wrong=wrong)), wrong[1][0])
        with self.assertRaises(BadFault):
            sending(meeting(1, 51), 1, wrong=[(5001, 1)])

    def test_lists_and_tuples(self):
        logs = [[1], None, [0]]
        self.assertEqual(explained(tiny(), logs), (1, ((1, 2),)))
        self.assertEqual(logs, [[1], None, [0]])
        self.assertEqual(explained(logs=((1,), None, (0,)), end=tiny()), (1, ((1, 2),)))


def meeting(tail, row):
    """An end whose hearer leaves its ring of 97 rows only at this one of them, if it hears 0 there.

    The sender has a ring of 98 rows behind so many others, and puts 0 at the last one of its ring. A hearer that left
    its ring puts 0 once, by which the sender goes to rest, and then waits for a wrong bit.
    """
    ring = [0] + list(range(2, 98))
    hearer = [(1, 1, 1)] * 100
    for index, place in enumerate(ring):
        behind = ring[(index + 1) % 97]
        hearer[place] = (1, 98 if index == row else behind, behind)
    hearer[98:] = [(0, 99, 99), (1, "lost", 99)]
    return End(hearer, [(1, "again", index + 1) for index in range(tail + 97)] + [(0, tail, tail)])


class TestIsLog(unittest.TestCase):
    def test_all_rows_of_bits(self):
        for end in random_ends(121, 60, 4) + [tiny(), voting_end(2, needed=1)]:
            for start, bits in product(STARTS, all_bits(5)):
                self.assertIs(is_log(end, start, bits), plain_is_log(end, start, bits), (str(end), start, bits))

    def test_the_standard_end(self):
        end = standard_end()
        self.assertIs(is_log(end, "right", (1,) * 7), True)
        self.assertIs(is_log(end, "sender", (1,) * 7), True)
        self.assertIs(is_log(end, "wrong", (1,) * 7), False)
        self.assertIs(is_log(end, "wrong", (0,) * 6 + (1,) * 8), True)
        self.assertIs(is_log(end, "right", (0,) * 7 + (1,) * 8), True)
        self.assertIs(is_log(end, "right", (1,) * 6), False)
        self.assertIs(is_log(end, "right", (1,) * 8), False)
        self.assertIs(is_log(end, "right", (0,) * 7 + (1,) * 9), False)

    def test_any_values(self):
        self.assertIs(is_log(bits=(0,), start="wrong", end=tiny()), True)
        odd = [value for value in ODD_VALUES if value != (1,)] + [
            [0], [1], [1, 0], (True,), (False,), (1, True), (None,), ("1",), ("0",), "1", "10", ((1,),), {1: 1}, {0: 0},
            (2,), (-1,), (1, 0, 2), ([],), ({},), ((),), (10 ** 39,), (1,) * 4000, (0, "0")]
        for end, start, value in product((tiny(), standard_end(), voting_end(2, needed=1)), STARTS, odd):
            self.assertIs(is_log(end, start, value), False, (start, value))
        # A row of bits goes on behind no word, so what follows it does not matter either.
        self.assertIs(is_log(tiny(), "sender", (1, None)), False)


if __name__ == "__main__":
    unittest.main()
