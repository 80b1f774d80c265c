"""Promises [22] and [23], with [16] and [17]: sound ends, promises judged, and the histories that break them."""

import unittest
from itertools import product

from strongbit.ends import End
from strongbit.errors import Endless, NoPromise, TooMany, Unsound
from strongbit.families import counted_end, standard_end, voting_end, voting_weakness
from strongbit.judging import is_sound, judge, weakness
from strongbit.lines import Line
from strongbit.outcomes import longest, outcomes

from models import all_sendings, ends_well, fewest_to_break, sound_ends
from samples import ODD_VALUES, random_ends, tiny

PROMISES = ("all", "once", "order", "rest")

NO_PROMISES = ODD_VALUES + ["All", "rest ", "all once", "orders", "r", ("all",), ["all"], {"all": "all"},
                            ("all", "once")]

# A hearer that hears the body wrongly and then a bit 0 waits for another one.
RING = End([(1, "lost", "taken"), (1, 2, "lost"), (1, "lost", 2)], [(1, "again", "done")])

# A hearer without faults waits for a bit 0 of the sender.
WAITING = End([(1, "taken", 0), (1, "lost", "lost")], [(0, "done", "done")])

NEVER = End([(1, 0, 0), (1, "lost", "lost")], [(1, "done", "done")])


def wrong_bits(deeds):
    """The number of wrong bits in all sendings."""
    return sum(len(deed[1]) for deed in deeds if deed[0] == "send")


class TestIsSound(unittest.TestCase):
    def test_small_ends(self):
        found = []
        for end in random_ends(91, 400, 4):
            self.assertIs(is_sound(end), ends_well(end), str(end))
            found.append(is_sound(end))
        self.assertGreater(found.count(True), 20)
        self.assertGreater(found.count(False), 100)

    def test_ends_that_are_not(self):
        for end in (NEVER, End([(1, 0, 0), (1, "lost", "lost")], [(1, 0, 0)]),
                    End([(1, "lost", "lost"), (0, "lost", "lost")], [(1, "again", "done")]),
                    End([(1, "lost", "taken"), (0, "lost", "lost")], [(1, "done", "again")]),
                    End([(0, "lost", "taken"), (0, "lost", "lost")], [(1, "done", "again")])):
            self.assertIs(is_sound(end), False)

    def test_families(self):
        for end in (standard_end(), tiny(), voting_end(6, needed=6, rounds=3), RING, WAITING,
                    counted_end(10, hearer=1, sender=10, flag=8, gap=8)):
            self.assertIs(is_sound(end=end), True)


class TestHistories(unittest.TestCase):
    def check(self, end, promise, wrong, silent, hearers):
        """The wrong bits of a told history, once it is seen to break its promise; None if there is none."""
        told = judge(end, promise, wrong, silent=silent, hearers=hearers)
        if told is None:
            return None
        place = (str(end), promise, wrong, silent, hearers, told)
        self.assertIs(type(told), tuple)
        stations, deeds = told
        self.assertIs(type(deeds), list)
        if hearers is not None:
            self.assertEqual(stations, hearers + 1, place)
        self.assertTrue(2 <= stations <= 20)
        for deed in deeds:
            if deed[0] == "send":
                self.assertLessEqual(len(deed[1]), wrong, place)
                self.assertEqual([sorted(deed[1]), sorted(deed[2])], [list(deed[1]), list(deed[2])], place)
            if not silent:
                self.assertTrue(deed[0] == "offer" or (deed[0] == "send" and deed[2] == ()), place)
        self.see_broken(end, promise, stations, deeds, place)
        self.assertEqual(judge(end, promise, wrong, silent=silent, hearers=hearers), told)
        return wrong_bits(deeds)

    def see_broken(self, end, promise, stations, deeds, place):
        if promise == "rest":
            line = Line.replayed(end, stations, deeds[:-1])
            self.assertEqual(deeds[-1][0], "send", place)
            with self.assertRaises(Endless):
                line.do(deeds[-1])
        else:
            line = Line.replayed(end, stations, deeds)
            self.assertIn(promise, [broken[0] for broken in line.broken()], place)

    def test_small_ends_break_promises(self):
        broken = {promise: 0 for promise in PROMISES}
        for end in sound_ends(92, 20, 4):
            for promise, wrong, silent in product(PROMISES, (0, 1, 2), (True, False)):
                for hearers in (None, 1, 2, 4, 19):
                    broken[promise] += self.check(end, promise, wrong, silent, hearers) is not None
            for promise, silent in product(PROMISES, (True, False)):
                self.check(end, promise, 3, silent, None)
        for promise in PROMISES:
            self.assertGreater(broken[promise], 20, promise)

    def test_the_fewest_wrong_bits_of_one_sending(self):
        for end in sound_ends(93, 25, 4, forward=True):
            for (hearers, wrong), silent in product([(1, 1), (1, 2), (2, 1), (2, 2), (3, 1)], (True, False)):
                breaking = {"all": [], "once": []}
                for number, silences, one in all_sendings(end, hearers, wrong, silent):
                    words = [word for word in one.words[1:] if word is not None]
                    if one.words[0] == "done" and "lost" in words:
                        breaking["all"].append(number)
                    if one.words[0] != "done" and silent and "lost" in words and "taken" in words:
                        breaking["all"].append(number)
                    if one.words[0] == "again" and "taken" in words:
                        breaking["once"].append(number)
                for promise, key in (("all", "all"), ("once", "once"), ("order", "once")):
                    self.assertEqual(self.check(end, promise, wrong, silent, hearers),
                                     min(breaking[key], default=None), (str(end), promise, hearers, wrong, silent))
                self.assertIsNone(judge(end, "rest", wrong, silent=silent, hearers=hearers))

    def test_the_fewest_wrong_bits_of_all_histories(self):
        for end in sound_ends(94, 6, 3, forward=True) + [tiny()]:
            for silent in (True, False):
                best = fewest_to_break(end, 2, 1, silent, 5)
                for promise in ("all", "once", "order"):
                    self.assertEqual(self.check(end, promise, 1, silent, 1), best.get(promise),
                                     (str(end), promise, silent))
        for end in sound_ends(95, 3, 3, forward=True) + [tiny()]:
            best = fewest_to_break(end, 3, 1, True, 3, frames=(0,))
            for promise in ("all", "once"):
                self.assertEqual(self.check(end, promise, 1, True, 2), best.get(promise), (str(end), promise))
            best = fewest_to_break(end, 3, 1, False, 5)
            for promise in ("all", "once", "order"):
                self.assertEqual(self.check(end, promise, 1, False, 2), best.get(promise), (str(end), promise))

    def test_rest_breaks_exactly_where_there_is_no_longest_sending(self):
        rings = 0
        for end in sound_ends(96, 40, 3):
            least = {}
            for wrong, silent, hearers in product((0, 1, 2), (True, False), (None, 1, 2)):
                found = self.check(end, "rest", wrong, silent, hearers)
                endless = longest(end, wrong, silent=silent, hearers=hearers) is None
                self.assertEqual(found is not None, endless)
                if endless:
                    rings += 1
                    # The first bound within which there is a ring is the fewest wrong bits of any.
                    self.assertEqual(found, least.setdefault((silent, hearers), wrong))
        self.assertGreater(rings, 50)

    def test_rest(self):
        self.assertEqual(judge(RING, "rest", 2, silent=False), (2, [("offer", 0, 0), ("send", ((0, 1), (1, 1)), ())]))
        self.assertIsNone(judge(RING, "rest", 1))
        self.assertEqual(self.check(WAITING, "rest", 0, True, None), 0)
        self.assertIsNone(judge(WAITING, "rest", 0, silent=False))
        self.assertEqual(self.check(WAITING, "rest", 3, False, 19), 1)
        for wrong, silent in product((0, 1, 2), (True, False)):
            self.assertIsNone(judge(standard_end(), "rest", wrong, silent=silent))

    def test_tiny(self):
        self.assertEqual(judge(tiny(), "all", 1, silent=False), (2, [("offer", 0, 0), ("send", ((1, 1),), ())]))
        for promise in ("all", "once", "order"):
            for silent, hearers in product((True, False), (None, 1, 2, 19)):
                self.assertIsNone(judge(tiny(), promise, 0, silent=silent, hearers=hearers))
                self.assertEqual(self.check(tiny(), promise, 3, silent, hearers), 1)

    def test_all_where_the_sender_falls_silent_behind_again(self):
        # A hearer has the frame or not by its bit 2, behind which the sender says "again" if it heard a 0 there.
        end = voting_end(2, needed=2, rounds=1)
        found = {(silent, wrong): self.check(end, "all", wrong, silent, None)
                 for silent, wrong in product((True, False), (1, 2, 3))}
        self.assertEqual(found, {(True, 1): None, (True, 2): 2, (True, 3): 2, (False, 1): None, (False, 2): 2,
                                 (False, 3): 2})
        end = End([(1, "lost", "taken"), (1, "lost", "lost")], [(1, 1, 1), (1, "again", "again")])
        self.assertFalse(is_sound(end))
        # Bit 1 takes the frame, and the sender is done only at bit 2, where a hearer that lost it would put 0.
        end = End([(1, 2, "taken"), (1, 2, 2), (0, "lost", "lost")], [(1, 1, 1), (1, "again", "done")])
        stations, deeds = judge(end, "all", 1, silent=True)
        self.assertEqual(wrong_bits(deeds), 1)
        self.assertEqual(self.check(end, "all", 1, True, 2), 1)
        # Without silences the other hearers go on to wait for the frame, and they have it again.
        self.assertIsNone(judge(end, "all", 1, silent=False))
        self.assertEqual(self.check(end, "once", 1, False, 2), 1)

    def test_again_and_fall(self):
        # The sender puts nothing by which hearers could tell, so only its own wrong bit makes it say "again".
        end = End([(1, "lost", "taken"), (1, "lost", "lost")], [(1, "again", "done")])
        told = judge(end, "all", 2, silent=True)
        self.assertEqual(wrong_bits(told[1]), 1)
        again = End([(1, "lost", 2), (0, "lost", "lost"), (1, "taken", "taken")],
                    [(1, 1, "done"), (1, "again", "again")])
        for silent in (True, False):
            for hearers in (None, 1, 2, 3):
                for promise in PROMISES:
                    self.check(again, promise, 2, silent, hearers)

    def test_the_standard_end(self):
        for wrong, silent in product((1, 2), (True, False)):
            for promise in ("once", "order"):
                self.assertEqual(self.check(standard_end(), promise, wrong, silent, None), 1)
        self.assertEqual(self.check(standard_end(), "all", 2, True, None), 1)
        self.assertEqual(self.check(standard_end(), "all", 2, False, None), 2)
        for promise in PROMISES:
            self.assertIsNone(judge(standard_end(), promise, 0))

    def test_new_lists(self):
        told = judge(tiny(), "once", 1)
        kept = (told[0], list(told[1]))
        told[1].clear()
        self.assertEqual(judge(tiny(), "once", 1), kept)

    def test_arguments(self):
        self.assertEqual(judge(wrong=1, promise="all", end=tiny(), silent=False, hearers=2),
                         judge(tiny(), "all", 1, silent=False, hearers=2))
        self.assertEqual(judge(tiny(), "all", 1), judge(tiny(), "all", 1, silent=True, hearers=None))
        self.assertIsNotNone(judge(WAITING, "rest", 0))
        self.assertIsNone(judge(WAITING, "rest", 0, silent=False))


class TestWeakness(unittest.TestCase):
    def plain(self, end, promise, silent, hearers, most):
        for wrong in range(most + 1):
            if judge(end, promise, wrong, silent=silent, hearers=hearers) is not None:
                return wrong
        return None

    def test_as_judge_in_turn(self):
        met = {}
        for end in sound_ends(97, 25, 3) + [RING, WAITING]:
            for promise, silent, hearers, most in product(PROMISES, (True, False), (None, 1, 2), (0, 1, 2)):
                found = weakness(end, promise, silent=silent, hearers=hearers, most=most)
                self.assertEqual(found, self.plain(end, promise, silent, hearers, most))
                met[found] = True
        self.assertEqual(set(met), {None, 0, 1, 2})

    def test_most(self):
        self.assertEqual(weakness(RING, "rest", silent=False), 2)
        self.assertEqual(weakness(RING, "rest", silent=False, most=2), 2)
        self.assertIsNone(weakness(RING, "rest", silent=False, most=1))
        self.assertIsNone(weakness(RING, "rest", most=0))
        self.assertEqual(weakness(WAITING, "rest", most=0), 0)
        self.assertIsNone(weakness(tiny(), "rest"))
        self.assertEqual(weakness(voting_end(5, needed=3), "all", silent=False), 3)
        self.assertIsNone(weakness(voting_end(6, needed=4), "all", silent=False))
        self.assertEqual(weakness(tiny(), "all", silent=True, hearers=None, most=3), 1)

    def test_voting_ends_hold_as_long_as_they_should(self):
        for votes, rounds, silent in product((1, 2, 3, 4, 5, 6), (1, 2, 3), (True, False)):
            for needed in range(1, votes + 1):
                number = voting_weakness(votes, needed=needed, rounds=rounds, silent=silent)
                # The greater ones take long; they are looked at with few wrong bits.
                most = 3 if votes * rounds <= 8 else 1
                end = voting_end(votes, needed=needed, rounds=rounds)
                for promise in ("all", "once"):
                    self.assertEqual(weakness(end, promise, silent=silent, most=most),
                                     number if number <= most else None, (votes, needed, rounds, silent, promise))

    def test_the_standard_end(self):
        self.assertEqual(weakness(standard_end(), "all", most=2), 1)
        self.assertEqual(weakness(standard_end(), "once", silent=False, most=2), 1)
        self.assertEqual(weakness(standard_end(), "all", silent=False, most=2), 2)
        self.assertIsNone(weakness(standard_end(), "rest", most=2))

    def test_arguments(self):
        self.assertEqual(weakness(promise="once", end=tiny(), most=3, hearers=1, silent=False), 1)
        self.assertEqual([weakness(WAITING, "rest"), weakness(WAITING, "rest", silent=False)], [0, 1])


class TestErrors(unittest.TestCase):
    def test_no_promise_first(self):
        for end in (tiny(), NEVER, standard_end()):
            for value in NO_PROMISES:
                with self.assertRaises(NoPromise) as caught:
                    judge(end, value, 3)
                self.assertIs(caught.exception.promise, value)
                with self.assertRaises(NoPromise) as caught:
                    weakness(end, value, hearers=19)
                self.assertIs(caught.exception.promise, value)

    def test_then_unsound(self):
        for promise, silent, hearers in product(PROMISES, (True, False), (None, 1, 19)):
            for end in (NEVER, too_many(), End(tiny().hearer, [(1, "done", "again")])):
                with self.assertRaises(Unsound):
                    judge(end, promise, 3, silent=silent, hearers=hearers)
                with self.assertRaises(Unsound):
                    weakness(end, promise, silent=silent, hearers=hearers)

    def test_then_too_many(self):
        for promise in PROMISES:
            with self.assertRaises(TooMany) as caught:
                judge(standard_end(), promise, 3)
            self.assertEqual(caught.exception.limit, 5000)
        with self.assertRaises(TooMany):
            judge(standard_end(), "all", 3, silent=False)
        # With exactly so many hearers fewer standings come about.
        self.assertIsNone(judge(standard_end(), "rest", 3, silent=False, hearers=1))

    def test_weakness_raises_it_only_where_it_looks(self):
        self.assertEqual(weakness(standard_end(), "all"), 1)
        self.assertEqual(weakness(standard_end(), "order", most=3), 1)
        with self.assertRaises(TooMany) as caught:
            weakness(standard_end(), "rest")
        self.assertEqual(caught.exception.limit, 5000)
        self.assertIsNone(weakness(standard_end(), "rest", most=2))


def too_many():
    """An end that is not sound and of which more than 5000 standings come about."""
    return End(standard_end().hearer, [(put, "again", "again") if word == "done" or other == "done"
                                       else (put, word, other) for put, word, other in standard_end().sender])


class TestAllIsToldByOneSending(unittest.TestCase):
    def test_outcomes_tell_the_same(self):
        for end in sound_ends(98, 30, 4):
            for wrong, silent, hearers in product((0, 1, 2), (True, False), (None, 1, 2)):
                found = outcomes(end, wrong, silent=silent, hearers=hearers)
                numbers = {"all": [], "once": []}
                for (word, words), number in found.items():
                    if word == "again" and "taken" in words:
                        numbers["once"].append(number)
                    if "lost" in words and (word == "done" or (silent and "taken" in words)):
                        numbers["all"].append(number)
                for promise, key in (("all", "all"), ("once", "once"), ("order", "once")):
                    told = judge(end, promise, wrong, silent=silent, hearers=hearers)
                    self.assertEqual(None if told is None else wrong_bits(told[1]), min(numbers[key], default=None))


if __name__ == "__main__":
    unittest.main()
