"""Single sendings, their faults, and endless ones: promises 11, 12, 13 and the outcome of 21."""

import inspect
import random
import unittest

from strongbit import sendings
from strongbit.ends import End
from strongbit.errors import BadFault, Endless
from strongbit.families import counted_end, standard_end, voting_end
from strongbit.sendings import Sending, sending

from plain import plain_sending
from samples import random_end, random_ends, tiny

# The hearer that heard wrongly goes round for ever: rows 1, 2, 3.
LASTING = End([(1, "lost", "taken"), (0, 2, 2), (1, 3, 3), (1, 1, 1)], [(1, "again", "done")])

# A sender that waits for two bits 1 one behind another, and hearers that put 0 at each second bit.
BLINKING = End([(1, 2, 2), (0, "lost", "lost"), (0, 0, 0)], [(1, 0, 1), (1, 0, "done")])


def told(end, hearers, wrong=(), silent=()):
    """What a sending comes to, in the words of plain_sending."""
    try:
        one = sending(end, hearers, wrong=wrong, silent=silent)
    except BadFault as error:
        return "bad", error.bit, error.station
    except Endless as error:
        return "endless", error.bit, error.ring
    return "ended", one.line, one.words, tuple(one.heard(station) for station in range(hearers + 1))


class TestWithoutFaults(unittest.TestCase):
    def test_one_hearer(self):
        one = sending(tiny(), 1)
        self.assertEqual(one.line, (1,))
        self.assertEqual(one.words, ("done", "taken"))
        self.assertEqual(one.heard(0), (1,))
        self.assertEqual(one.heard(1), (1,))
        self.assertEqual(one.result, ("done", ("taken",)))

    def test_any_number_of_hearers(self):
        for hearers in (1, 2, 3, 39, 40):
            one = sending(tiny(), hearers)
            self.assertEqual(one.words, ("done",) + ("taken",) * hearers)
            self.assertEqual(one.line, (1,))
            self.assertEqual([one.heard(station) for station in range(hearers + 1)], [(1,)] * (hearers + 1))

    def test_the_sender_starts_in_its_row_0(self):
        end = End([(1, "lost", "taken"), (1, "lost", "lost")], [(0, 1, 1), (1, "again", "done")])
        one = sending(end, 1)
        self.assertEqual((one.line, one.words), ((0, 1), ("done", "lost")))

    def test_stations_at_rest_put_weak_bits(self):
        end = End([(0, "taken", "lost"), (0, "lost", "lost")], [(1, 1, 1), (1, "again", 2), (1, "again", "done")])
        one = sending(end, 2)
        self.assertEqual(one.line, (0, 1, 1))
        self.assertEqual(one.words, ("done", "taken", "taken"))
        self.assertEqual((one.heard(0), one.heard(1)), ((0, 1, 1), (0,)))

    def test_longer_ends(self):
        self.assertEqual(sending(standard_end(), 5).line, (1,) * 7)
        self.assertEqual(sending(voting_end(4, needed=2, rounds=3), 5).line, (1,) * 12)
        self.assertEqual(sending(counted_end(10, hearer=5, sender=1), 2).words, ("done", "taken", "taken"))


class TestWrongBits(unittest.TestCase):
    def test_wrong_body(self):
        one = sending(tiny(), 2, wrong=[(0, 1)])
        self.assertEqual((one.line, one.words), ((0,), ("again", "lost", "lost")))
        self.assertEqual(one.result, ("again", ("lost",)))

    def test_wrong_bit_at_a_hearer(self):
        one = sending(tiny(), 2, wrong=[(1, 2)])
        self.assertEqual((one.line, one.words), ((1,), ("done", "taken", "lost")))
        self.assertEqual([one.heard(station) for station in range(3)], [(1,), (1,), (0,)])
        self.assertEqual(one.result, ("done", ("lost", "taken")))

    def test_wrong_bit_at_the_sender(self):
        one = sending(tiny(), 2, wrong=[(1, 0)])
        self.assertEqual((one.line, one.words), ((1,), ("again", "taken", "taken")))
        self.assertEqual(one.heard(0), (0,))

    def test_wrong_body_and_wrong_bits(self):
        one = sending(tiny(), 3, wrong=[(1, 2), (0, 1), (1, 0)])
        self.assertEqual((one.line, one.words), ((0,), ("done", "lost", "taken", "lost")))
        self.assertEqual([one.heard(station) for station in range(4)], [(1,), (0,), (1,), (0,)])

    def test_a_wrong_bit_of_the_standard_end(self):
        # The sender alone hears a wrong bit, the last end bit: it warns nobody in time.
        one = sending(standard_end(), 2, wrong=[(7, 0)])
        self.assertEqual(one.words, ("again", "taken", "taken"))
        self.assertEqual(one.line, (1,) * 7 + (0,) * 6 + (1,) * 8)
        self.assertEqual((one.heard(1), one.heard(0)), ((1,) * 7, (1,) * 6 + (0,) * 7 + (1,) * 8))
        # One bit earlier, the hearers hear its flag at their last end bit.
        one = sending(standard_end(), 2, wrong=[(6, 0)])
        self.assertEqual(one.words, ("again", "taken", "taken"))
        self.assertEqual(len(one), 21)


class TestSilence(unittest.TestCase):
    def test_silent_hearer(self):
        one = sending(tiny(), 2, silent=[(1, 1)])
        self.assertEqual((one.line, one.words), ((1,), ("done", None, "taken")))
        self.assertEqual([one.heard(station) for station in range(3)], [(1,), (), (1,)])
        self.assertEqual(one.result, ("done", ("taken",)))

    def test_silent_sender(self):
        one = sending(tiny(), 1, silent=[(1, 0)])
        self.assertEqual((one.line, one.words, one.result), ((1,), (None, "taken"), ("silent", ("taken",))))

    def test_a_silent_station_puts_weak_bits_from_this_bit_on(self):
        one = sending(tiny(), 2, wrong=[(0, 1)], silent=[(1, 1)])
        self.assertEqual((one.line, one.words), ((1,), ("done", None, "taken")))

    def test_all_fall_silent(self):
        one = sending(tiny(), 2, silent=[(1, 0), (1, 1), (1, 2)])
        self.assertEqual((one.line, one.words), ((1,), (None, None, None)))
        self.assertEqual((one.result, len(one)), (("silent", ()), 1))
        self.assertEqual([one.heard(station) for station in range(3)], [(), (), ()])

    def test_all_fall_silent_behind_some_bits(self):
        one = sending(voting_end(3, needed=2), 2, wrong=[(0, 1)], silent=[(3, 2), (2, 1), (3, 0)])
        self.assertEqual((one.line, one.words), ((0, 1, 1), (None, None, None)))
        self.assertEqual([one.heard(station) for station in range(3)], [(0, 1), (0,), (0, 1)])

    def test_all_hearers_silent(self):
        self.assertEqual(sending(tiny(), 2, silent=[(1, 2), (1, 1)]).result, ("done", ()))

    def test_a_station_may_hear_wrongly_ahead_of_its_silence(self):
        one = sending(voting_end(3, needed=2), 1, wrong=[(1, 1)], silent=[(2, 1)])
        self.assertEqual((one.heard(1), one.words), ((0,), ("done", None)))


class TestSendingObjects(unittest.TestCase):
    def test_len_iteration_and_repr(self):
        one = sending(standard_end(), 3)
        self.assertEqual((len(one), repr(one)), (7, "Sending(7 bits)"))
        self.assertEqual((list(one), list(one), tuple(one)), ([1] * 7, [1] * 7, one.line))
        self.assertEqual(repr(sending(tiny(), 1)), "Sending(1 bits)")

    def test_kinds(self):
        one = sending(tiny(), 2, wrong=[(1, 2)], silent=[(1, 1)])
        self.assertIsInstance(one, Sending)
        for value in (one.line, one.words, one.heard(0), one.heard(1), one.result, one.result[1]):
            self.assertIs(type(value), tuple)

    def test_equal(self):
        self.assertEqual(sending(tiny(), 2), sending(tiny(), 2))
        self.assertEqual(sending(tiny(), 2, wrong=[(1, 2), (1, 1)]), sending(tiny(), 2, wrong=((1, 1), (1, 2))))
        # Sendings of ends that are alike are equal, even if the ends are not.
        self.assertEqual(sending(End(tiny().hearer + ((1, 2, 2),), tiny().sender), 2), sending(tiny(), 2))

    def test_other_lines_words_or_heard_bits(self):
        one = sending(tiny(), 2)
        self.assertNotEqual(one, sending(tiny(), 3))
        self.assertNotEqual(one, sending(tiny(), 2, wrong=[(1, 2)]))
        self.assertNotEqual(one, sending(tiny(), 2, silent=[(1, 2)]))
        same_words = End([(1, "taken", "taken"), (0, "lost", "lost")], [(1, "again", "done")])
        self.assertEqual(sending(same_words, 2, wrong=[(1, 1)]).words, sending(same_words, 2).words)
        self.assertNotEqual(sending(same_words, 2, wrong=[(1, 1)]), sending(same_words, 2))
        other_word = End(tiny().hearer, [(1, "again", "again")])
        self.assertEqual(sending(other_word, 2).line, one.line)
        self.assertEqual(sending(other_word, 2).heard(0), one.heard(0))
        self.assertNotEqual(sending(other_word, 2), one)
        strong = End([(0, "taken", "taken"), (0, "lost", "lost")], [(1, "done", "done")])
        weak = End([(1, "taken", "taken"), (0, "lost", "lost")], [(1, "done", "done")])
        lines = sending(strong, 1, wrong=[(1, 0), (1, 1)]), sending(weak, 1)
        self.assertEqual([one.words for one in lines], [("done", "taken")] * 2)
        self.assertEqual([one.heard(0) + one.heard(1) for one in lines], [(1, 1)] * 2)
        self.assertNotEqual(*lines)

    def test_equal_to_nothing_else(self):
        one = sending(tiny(), 1)
        for other in (None, 1, (1,), [1], one.line, one.words, "Sending(1 bits)", tiny()):
            self.assertFalse(one == other)
            self.assertTrue(one != other)

    def test_nothing_can_be_assigned(self):
        one = sending(tiny(), 1)
        for name in ("line", "words", "result"):
            with self.assertRaises(AttributeError):
                setattr(one, name, ())

    def test_where_it_is_defined(self):
        self.assertEqual((Sending.__module__, sending.__module__), (sendings.__name__, sendings.__name__))
        for name in ("line", "words", "heard", "result", "__len__", "__iter__", "__eq__", "__repr__"):
            self.assertIn(name, vars(Sending))
        self.assertEqual(str(inspect.signature(sending)), "(end, hearers, *, wrong=(), silent=())")


class TestArguments(unittest.TestCase):
    def test_names_lists_and_tuples(self):
        expected = sending(tiny(), 3, wrong=[(0, 1), (1, 2)], silent=[(1, 3)])
        self.assertEqual(sending(end=tiny(), hearers=3, silent=((1, 3),), wrong=((1, 2), (0, 1))), expected)
        self.assertEqual(sending(tiny(), 3, wrong=[[1, 2], [0, 1]], silent=([1, 3],)), expected)
        with self.assertRaises(TypeError):
            sending(tiny(), 3, [(0, 1)])

    def test_they_stay_as_they_are(self):
        wrong, silent = [(1, 2), (0, 1), (1, 0)], [(1, 3), (1, 1)]
        one = sending(tiny(), 4, wrong=wrong, silent=silent)
        self.assertEqual((wrong, silent), ([(1, 2), (0, 1), (1, 0)], [(1, 3), (1, 1)]))
        words, heard = one.words, one.heard(2)
        wrong.clear()
        silent.append((7, 7))
        self.assertEqual((one.words, one.heard(2)), (words, heard))

    def test_they_stay_as_they_are_behind_an_error(self):
        wrong, silent = [(1, 2), (0, 1), (9, 9)], [(1, 3), (1, 1)]
        with self.assertRaises(BadFault):
            sending(tiny(), 4, wrong=wrong, silent=silent)
        self.assertEqual((wrong, silent), ([(1, 2), (0, 1), (9, 9)], [(1, 3), (1, 1)]))

    def test_the_same_call_gives_the_same(self):
        for end in random_ends(11, 30, 4):
            self.assertEqual(told(end, 2, [(0, 1)]), told(end, 2, [(0, 1)]))


class TestImpossibleFaults(unittest.TestCase):
    def check(self, bad, end, hearers, wrong=(), silent=()):
        with self.assertRaises(BadFault) as caught:
            sending(end, hearers, wrong=wrong, silent=silent)
        self.assertEqual((caught.exception.bit, caught.exception.station), bad)

    def test_at_the_body(self):
        self.check((0, 0), tiny(), 2, wrong=[(0, 0)])
        self.check((0, 3), tiny(), 2, wrong=[(0, 3)])
        for station in (0, 1, 2, 3):
            self.check((0, station), tiny(), 2, silent=[(0, station)])

    def test_stations_that_are_not_there(self):
        self.check((1, 3), tiny(), 2, wrong=[(1, 3)])
        self.check((1, 3), tiny(), 2, silent=[(1, 3)])
        self.check((1, 10 ** 39), tiny(), 2, silent=[(1, 10 ** 39)])
        self.check((0, 41), tiny(), 40, wrong=[(0, 41), (1, 40), (0, 40)])

    def test_bits_ahead_of_the_body(self):
        self.check((-1, 1), tiny(), 2, wrong=[(1, 1), (-1, 1)])
        self.check((-1, 0), tiny(), 2, silent=[(-1, 0)])

    def test_behind_the_end(self):
        for bit in (2, 3, 5000, 5001, 10 ** 39):
            for station in (0, 1, 2):
                self.check((bit, station), tiny(), 1, wrong=[(bit, station)])
                self.check((bit, station), tiny(), 1, silent=[(bit, station)])

    def test_stations_at_rest(self):
        # Only the hearer of the wrong bit goes on behind bit 7.
        end = counted_end(7, hearer=7, sender=7)
        self.assertEqual(len(sending(end, 2, wrong=[(7, 1)])), 21)
        self.check((8, 0), end, 2, wrong=[(7, 1), (8, 0)])
        self.check((8, 2), end, 2, wrong=[(7, 1)], silent=[(8, 2)])
        self.assertEqual(sending(end, 2, wrong=[(7, 1)], silent=[(8, 1)]).words, ("done", None, "taken"))
        self.check((9, 1), end, 2, wrong=[(7, 1)], silent=[(8, 1), (9, 1)])

    def test_silent_stations(self):
        end = voting_end(3, needed=2)
        self.check((2, 1), end, 2, wrong=[(2, 1)], silent=[(1, 1)])
        self.check((3, 1), end, 2, silent=[(3, 1), (1, 1)])

    def test_given_twice(self):
        self.check((1, 1), tiny(), 2, wrong=[(1, 1), (1, 1)])
        self.check((1, 1), tiny(), 2, silent=[(1, 1), (1, 1)])
        self.check((1, 1), tiny(), 2, wrong=[(1, 1)], silent=[(1, 1)])
        self.check((0, 1), tiny(), 2, wrong=[(0, 1), (0, 1)])
        self.check((0, 1), tiny(), 2, wrong=[(0, 1)], silent=[(0, 1)])
        self.check((1, 0), tiny(), 2, wrong=[(1, 1), (1, 0), (1, 1), (1, 0)])

    def test_the_least_one_is_told(self):
        self.check((0, 0), tiny(), 2, wrong=[(9, 9), (1, 7), (0, 0), (1, 1)], silent=[(0, 1)])
        self.check((1, 3), tiny(), 2, wrong=[(2, 0), (1, 3)], silent=[(1, 0), (1, 4)])
        self.check((1, 3), tiny(), 2, wrong=[(1, 4)], silent=[(1, 3)])
        # Two faults of the same bit: the lesser station first, in whichever list it stands.
        self.check((2, 1), tiny(), 2, wrong=[(2, 2)], silent=[(2, 1)])
        self.check((2, 1), tiny(), 2, wrong=[(2, 1)], silent=[(2, 2)])

    def test_possible_beside_the_lesser_ones_only(self):
        # Alone, the fault at bit 2 is not possible, but behind the one at bit 1 it is.
        end = End([(1, 2, "taken"), (0, "lost", "lost"), (1, "lost", "lost")], [(1, "again", "done")])
        self.check((2, 1), end, 1, wrong=[(2, 1)])
        self.assertEqual(sending(end, 1, wrong=[(2, 1), (1, 1)]).heard(1), (0, 0))
        # The other way around, a lesser one may make a greater one impossible.
        end = End([(1, "lost", 2), (0, "lost", "lost"), (1, "lost", "taken")], [(1, "again", "done")])
        self.assertEqual(sending(end, 1, wrong=[(2, 1)]).words, ("done", "lost"))
        self.check((2, 1), end, 1, wrong=[(2, 1), (1, 1)])
        self.check((2, 1), end, 1, wrong=[(2, 1)], silent=[(1, 1)])

    def test_faults_of_the_last_bit(self):
        one = sending(voting_end(3, needed=1), 1, wrong=[(3, 0), (3, 1)])
        self.assertEqual((one.line, one.words), ((1, 1, 1), ("again", "lost")))
        self.check((4, 0), voting_end(3, needed=1), 1, wrong=[(3, 1), (4, 0)])

    def test_the_bit_5000(self):
        with self.assertRaises(Endless) as caught:
            sending(LASTING, 1, wrong=[(0, 1), (5000, 1)])
        self.assertEqual((caught.exception.bit, caught.exception.ring), (5000, 3))
        one = sending(LASTING, 1, wrong=[(0, 1)], silent=[(5000, 1)])
        self.assertEqual((len(one), one.words), (5000, ("again", None)))
        self.assertEqual(one.heard(1), ((0, 1, 1) * 1667)[:4999])
        self.check((5001, 1), LASTING, 1, wrong=[(0, 1)], silent=[(5001, 1)])
        self.check((5001, 1), LASTING, 1, wrong=[(0, 1), (5001, 1)])
        self.check((10 ** 39, 1), LASTING, 1, wrong=[(0, 1), (10 ** 39, 1)])

    def test_ahead_of_endless(self):
        self.check((1, 2), LASTING, 1, wrong=[(0, 1), (1, 2)])
        self.check((2, 0), LASTING, 1, wrong=[(0, 1), (2, 0)])
        self.check((0, 0), LASTING, 1, wrong=[(0, 1), (0, 0)])


class TestEndless(unittest.TestCase):
    def check(self, ring, end, hearers, wrong=(), silent=()):
        with self.assertRaises(Endless) as caught:
            sending(end, hearers, wrong=wrong, silent=silent)
        self.assertEqual((caught.exception.bit, caught.exception.ring), ring)

    def test_at_once(self):
        end = End([(1, 0, 0), (0, 1, 1)], [(1, 0, 0)])
        self.check((0, 1), end, 1)
        self.check((0, 1), end, 40)
        self.check((0, 1), end, 2, wrong=[(0, 1)])
        self.check((0, 2), BLINKING, 1)
        # With the sender at rest, the hearers go round alone.
        self.check((2, 2), BLINKING, 1, wrong=[(2, 0)])

    def test_as_soon_as_all_stations_are_as_they_will_be(self):
        # The sender is at rest behind bit 1 only, so the ring of the hearer begins there.
        self.check((1, 3), LASTING, 1, wrong=[(0, 1)])
        self.check((1, 3), LASTING, 3, wrong=[(0, 3), (0, 1)])

    def test_behind_some_rows(self):
        end = End([(1, 2, 2), (0, "lost", "lost"), (1, 3, 3), (1, 4, 4), (1, 5, 5), (1, 4, 4)], [(1, 0, 1), (1, 1, 1)])
        self.check((3, 2), end, 1)
        self.check((3, 2), end, 2, wrong=[(0, 2)])

    def test_faults_ahead(self):
        # The ring begins from the last bit with a fault on, even if the stations went round before.
        end = End([(1, 0, 0), (0, 1, 1)], [(1, 0, 0)])
        self.check((5, 1), end, 1, wrong=[(5, 1)])
        self.check((7, 1), end, 1, wrong=[(5, 1), (2, 0)], silent=[(7, 0)])
        self.check((1, 3), LASTING, 2, wrong=[(0, 1), (1, 2)])
        self.check((4, 3), LASTING, 2, wrong=[(0, 1), (4, 1)])

    def test_rings_of_several_machines(self):
        # A ring of the sender with 5 rows and one of the hearers with 7: both together have 35 bits.
        hearer = [(1, (index + 1) % 7, (index + 1) % 7) for index in range(7)]
        sender = [(1, (index + 1) % 5, (index + 1) % 5) for index in range(5)]
        self.check((0, 35), End(hearer, sender), 1)
        self.check((0, 35), End(hearer, sender), 3, wrong=[(0, 1)])
        self.check((3, 7), End(hearer, sender), 3, silent=[(3, 0)])

    def test_a_long_ring(self):
        rings = [(0, 41), (41, 43)]
        hearer = [(1, first + (index + 1) % size, first + (index + 1) % size) for first, size in rings
                  for index in range(size)]
        # Row 1 is in the ring of row 0, so the second ring is entered from the end of a tail by a wrong bit.
        hearer[0] = (1, 41, 1)
        sender = [(1, (index + 1) % 19, (index + 1) % 19) for index in range(19)]
        self.check((1, 41 * 43 * 19), End(hearer, sender), 2, wrong=[(1, 1)])

    def test_a_sending_may_end_behind_a_round(self):
        # All stations but the heard bits are the same twice: a fault lies between, so this is no ring.
        end = End([(1, "taken", 0), (0, "lost", "lost")], [(1, "done", 0)])
        self.check((0, 1), end, 1)
        one = sending(end, 1, wrong=[(4, 1), (9, 0)])
        self.assertEqual((one.line, one.words), ((1,) * 9, ("done", "taken")))


class TestAgainstThePlainModel(unittest.TestCase):
    def faults(self, source, hearers, most):
        bits = [0, 0, 1, 1, 2, 2, 3, 4, 6]
        return [(source.choice(bits), source.randint(0, hearers + (source.random() < 0.05)))
                for index in range(source.randint(0, most))]

    def test_random_ends(self):
        source = random.Random(13)
        many = {"bad": 0, "endless": 0, "ended": 0}
        for number in range(700):
            end = random_end(source, source.randint(1, 4) + 1)
            hearers = source.randint(1, 4)
            for most in (0, 1, 2, 4):
                wrong, silent = self.faults(source, hearers, most), self.faults(source, hearers, most // 2)
                expected = plain_sending(end, hearers, wrong, silent)
                many[expected[0]] += 1
                self.assertEqual(told(end, hearers, wrong, silent), expected, (str(end), hearers, wrong, silent))
        self.assertTrue(all(number > 300 for number in many.values()), many)

    def test_families(self):
        source = random.Random(17)
        ended = 0
        for number in range(250):
            end = source.choice([counted_end(3, hearer=2, sender=3, flag=2, gap=3), voting_end(3, needed=2, rounds=2)])
            hearers = source.randint(1, 5)
            wrong = [(source.randint(0, 9), source.randint(0, hearers)) for index in range(source.randint(0, 3))]
            silent = [(source.randint(1, 9), source.randint(0, hearers)) for index in range(source.randint(0, 2))]
            expected = plain_sending(end, hearers, wrong, silent)
            ended += expected[0] == "ended"
            self.assertEqual(told(end, hearers, wrong, silent), expected, (str(end), hearers, wrong, silent))
        self.assertGreater(ended, 50)


if __name__ == "__main__":
    unittest.main()
