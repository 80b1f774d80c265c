"""Promises [1] to [3] over the whole program: conventions, and the guarantees for small ends."""

import copy
import unittest
from itertools import product

from strongbit.certificates import certificate
from strongbit.checker import shows
from strongbit.counting import ways
from strongbit.desk import Desk
from strongbit.ends import End
from strongbit.errors import NoOutcome, NoPromise
from strongbit.explaining import explained, is_log
from strongbit.families import standard_end, voting_end, voting_weakness
from strongbit.judging import is_sound, judge, weakness
from strongbit.outcomes import example, longest, outcomes
from strongbit.sendings import sending
from strongbit.standings import standings

from models import fewest_to_break, sound_ends
from samples import ODD_VALUES, tiny

PROMISES = ("all", "once", "order", "rest")


def wrong_bits(history):
    """The number of wrong bits of a history."""
    return sum(len(deed[1]) for deed in history[1] if deed[0] == "send")


class TestGuarantees(unittest.TestCase):
    def test_what_judge_returns_is_the_least_of_all_histories(self):
        for end in sound_ends(151, 5, 3, forward=True):
            for silent, stations, deeds in ((False, 2, 5), (True, 2, 4), (False, 3, 4)):
                for wrong in (0, 1):
                    best = fewest_to_break(end, stations, wrong, silent, deeds, frames=(0, 1) if deeds == 5 else (0,))
                    for promise in ("all", "once"):
                        told = judge(end, promise, wrong, silent=silent, hearers=stations - 1)
                        self.assertEqual(None if told is None else wrong_bits(told), best.get(promise))

    def test_order_is_kept_exactly_if_once_is(self):
        for end in sound_ends(152, 40, 4):
            for wrong, silent, hearers in product((0, 1, 2), (True, False), (None, 1, 2)):
                broken = [judge(end, promise, wrong, silent=silent, hearers=hearers) for promise in ("once", "order")]
                self.assertEqual(broken[0] is None, broken[1] is None)
                if broken[0] is not None:
                    self.assertEqual(wrong_bits(broken[0]), wrong_bits(broken[1]))

    def test_numbers_of_hearers_above_the_number_of_wrong_bits(self):
        for end in sound_ends(153, 12, 3):
            for wrong, silent in product((0, 1, 2), (True, False)):
                def told(hearers):
                    broken = [judge(end, promise, wrong, silent=silent, hearers=hearers) for promise in PROMISES]
                    return (set(standings(end, wrong, silent=silent, hearers=hearers)),
                            outcomes(end, wrong, silent=silent, hearers=hearers),
                            longest(end, wrong, silent=silent, hearers=hearers),
                            [None if history is None else wrong_bits(history) for history in broken])

                first = told(wrong + 1)
                for hearers in (wrong + 2, wrong + 3, 19):
                    self.assertEqual(told(hearers), first)

    def test_voting_ends(self):
        for votes, rounds, silent in product((1, 2, 3, 4), (1, 2), (True, False)):
            for needed in range(1, votes + 1):
                end = voting_end(votes, needed=needed, rounds=rounds)
                number = voting_weakness(votes, needed=needed, rounds=rounds, silent=silent)
                for promise in ("all", "once", "order"):
                    self.assertEqual(weakness(end, promise, silent=silent), number if number <= 3 else None)

    def test_within_0_wrong_bits(self):
        for end in sound_ends(154, 150, 5):
            for promise, silent, hearers in product(("all", "once", "order"), (True, False), (None, 1, 3)):
                self.assertIsNone(judge(end, promise, 0, silent=silent, hearers=hearers), str(end))

    def test_within_one_wrong_bit_more_than_the_bits_of_the_sending_without_faults(self):
        seen = 0
        for end in sound_ends(155, 150, 4):
            bits = len(sending(end, 1))
            if bits <= 2:
                seen += 1
                for silent in (True, False):
                    broken = [judge(end, promise, bits + 1, silent=silent) for promise in PROMISES]
                    self.assertNotEqual(broken, [None] * 4, str(end))
        self.assertGreater(seen, 80)

    def test_ends_that_keep_all_have_long_sendings(self):
        seen = 0
        for end in sound_ends(156, 150, 4) + [voting_end(3, needed=2), voting_end(2, needed=2)]:
            for wrong in (1, 2):
                if all(judge(end, promise, wrong, silent=False) is None for promise in ("all", "once", "rest")):
                    seen += 1
                    self.assertGreaterEqual(longest(end, wrong, silent=False), 2 * wrong, str(end))
        self.assertGreater(seen, 1)

    def test_the_least_such_ends(self):
        for wrong in (1, 2, 3):
            end = voting_end(2 * wrong, needed=wrong + 1)
            for promise in PROMISES:
                self.assertIsNone(judge(end, promise, wrong, silent=False))
            self.assertEqual(longest(end, wrong, silent=False), 2 * wrong)


class TestConventions(unittest.TestCase):
    def test_arguments_stay_as_they_are(self):
        hearer, sender = [(1, "lost", "taken"), (0, "lost", "lost")], [(1, "again", "done")]
        end = End(hearer, sender)
        hearer.clear()
        sender.append(None)
        logs = [[1], None, [0]]
        told = certificate(end, "all", 1)
        things = [("closed", [(0, 0, 0, 1, ()), [0]]), told, ["closed", {0: [told]}], ("broken", 2, [("send", [], [])])]
        kept = copy.deepcopy((logs, told, things))
        explained(end, logs)
        for thing in things:
            shows(end, "all", 1, thing)
            is_log(end, "right", thing)
            for error, function in ((NoPromise, judge), (NoPromise, weakness), (NoPromise, certificate)):
                with self.assertRaises(error):
                    function(end, thing, **({} if function == weakness else {"wrong": 1}))
            with self.assertRaises(NoOutcome):
                example(end, thing, 1)
        self.assertEqual((logs, told, things), kept)
        self.assertEqual(end, tiny())

    def test_returned_lists_and_dicts_are_new(self):
        for function, arguments in [
                (outcomes, (tiny(), 1)), (ways, (tiny(), 2, 1)), (standings, (tiny(), 1))]:
            found = function(*arguments)
            kept = copy.deepcopy(found)
            self.assertIsNot(function(*arguments), found)
            found.clear()
            self.assertEqual(function(*arguments), kept)
        for promise in PROMISES:
            for told in (judge(tiny(), promise, 1), certificate(tiny(), promise, 1), certificate(tiny(), promise, 0)):
                if told is not None:
                    told[-1].clear()
            self.assertTrue(shows(tiny(), promise, 1, certificate(tiny(), promise, 1)))
            self.assertTrue(shows(tiny(), promise, 0, certificate(tiny(), promise, 0)))

    def test_the_same_each_time(self):
        for end in sound_ends(157, 10, 4):
            for promise in PROMISES:
                self.assertEqual(certificate(end, promise, 2), certificate(End(end.hearer, end.sender), promise, 2))
            for outcome in outcomes(end, 2):
                self.assertEqual(example(end, outcome, 2), example(End(end.hearer, end.sender), outcome, 2))
            self.assertEqual(explained(end, [None, None]), explained(end, (None, None)))

    def test_returned_values_may_be_passed_again(self):
        end = standard_end()
        told = judge(end, "once", 2)
        self.assertIs(shows(end, "once", 2, ("broken", *told)), True)
        for outcome in outcomes(end, 1):
            hearers, wrong, silent = example(end, outcome, 1)
            self.assertEqual(sending(end, hearers, wrong=wrong, silent=silent).result, outcome)
        one = sending(end, 2, wrong=[(7, 1)])
        self.assertEqual(explained(end, [one.heard(0), one.heard(1), None])[0], 1)

    def test_desks_equal_themselves_only(self):
        desk = Desk()
        self.assertEqual(desk, desk)
        self.assertNotEqual(desk, Desk())
        for value in ODD_VALUES:
            self.assertNotEqual(desk, value)

    def test_sound(self):
        self.assertIs(is_sound(standard_end()), True)


if __name__ == "__main__":
    unittest.main()
