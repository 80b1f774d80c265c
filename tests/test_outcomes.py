"""Promise [21]: outcomes, examples of them, and the longest sending."""

import unittest
from itertools import product

from strongbit.ends import End
from strongbit.errors import NoOutcome, TooMany
from strongbit.families import counted_end, standard_end, voting_end
from strongbit.outcomes import example, longest, outcomes
from strongbit.sendings import sending
from strongbit.standings import standings

from models import all_sendings, forward_ends
from plain import plain_moves
from samples import ODD_VALUES, random_ends, tiny

FEW = [(1, 0), (1, 1), (1, 2), (1, 3), (2, 0), (2, 1), (2, 2), (3, 1)]


def plain_outcomes(end, hearers, wrong, silent):
    """The fewest wrong bits of each outcome, by all sendings."""
    found = {}
    for wrong_bits, silences, one in all_sendings(end, hearers, wrong, silent):
        found[one.result] = min(found.get(one.result, wrong_bits), wrong_bits)
    return found


def joined(dicts):
    """The least number of each key in any of some dicts."""
    found = {}
    for one in dicts:
        for key, number in one.items():
            found[key] = min(found.get(key, number), number)
    return found


def has_ring(end, hearers, wrong, silent):
    """Whether a sending with so many hearers is endless, by all that can come about."""
    begins = [(wrong - sum(bodies), 0, tuple((1, True) if body else (0, False) for body in bodies))
              for bodies in product((False, True), repeat=hearers) if sum(bodies) <= wrong]
    moved, ahead = {}, list(begins)
    while ahead:
        moment = ahead.pop()
        if moment not in moved:
            moved[moment] = set(plain_moves(end, silent, *moment))
            ahead.extend(moved[moment])
    # What no longer leads anywhere is taken away, until only rings and what leads to them is left.
    while True:
        left = {moment: {behind for behind in behinds if behind in moved} for moment, behinds in moved.items()}
        left = {moment: behinds for moment, behinds in left.items() if behinds}
        if len(left) == len(moved):
            return bool(left)
        moved = left


class TestOutcomes(unittest.TestCase):
    def test_the_example_of_the_document(self):
        self.assertEqual(sorted(outcomes(tiny(), 1, silent=False).items()), [
            (("again", ("lost",)), 1), (("again", ("taken",)), 1), (("done", ("lost",)), 1),
            (("done", ("lost", "taken")), 1), (("done", ("taken",)), 0)])

    def test_silences(self):
        self.assertEqual(outcomes(tiny(), 0), {
            ("done", ("taken",)): 0, ("done", ()): 0, ("silent", ("taken",)): 0, ("silent", ()): 0})
        self.assertEqual(outcomes(tiny(), 0, silent=False), {("done", ("taken",)): 0})

    def test_all_sendings_with_so_many_hearers(self):
        for end in forward_ends(61, 40, 4):
            for (hearers, wrong), silent in product(FEW, (True, False)):
                self.assertEqual(outcomes(end, wrong, silent=silent, hearers=hearers),
                                 plain_outcomes(end, hearers, wrong, silent), (str(end), hearers, wrong, silent))

    def test_any_number_of_hearers(self):
        for end in forward_ends(62, 25, 4):
            for wrong, silent in product((0, 1, 2), (True, False)):
                expected = joined([plain_outcomes(end, hearers, wrong, silent) for hearers in range(1, wrong + 2)])
                self.assertEqual(outcomes(end, wrong, silent=silent), expected, (str(end), wrong, silent))

    def test_one_hearer_more_than_wrong_bits_is_as_good_as_any_number_of_them(self):
        for end in forward_ends(63, 12, 3):
            for silent in (True, False):
                self.assertEqual(plain_outcomes(end, 4, 1, silent), outcomes(end, 1, silent=silent, hearers=2))
                self.assertLessEqual(set(plain_outcomes(end, 3, 1, silent)), set(outcomes(end, 1, silent=silent)))

    def test_numbers_above_the_number_of_wrong_bits_give_the_same(self):
        for end in random_ends(64, 20, 4) + [voting_end(3, needed=2), counted_end(2, hearer=1, sender=2, flag=2)]:
            for wrong, silent in product((0, 1, 2), (True, False)):
                first = outcomes(end, wrong, silent=silent, hearers=wrong + 1)
                length = longest(end, wrong, silent=silent, hearers=wrong + 1)
                for hearers in (wrong + 2, wrong + 3, 19):
                    self.assertEqual(outcomes(end, wrong, silent=silent, hearers=hearers), first)
                    self.assertEqual(longest(end, wrong, silent=silent, hearers=hearers), length)

    def test_fewer_hearers_than_wrong_bits(self):
        self.assertNotIn(("done", ("lost", "taken")), outcomes(tiny(), 3, silent=False, hearers=1))
        self.assertEqual(outcomes(tiny(), 2, silent=False, hearers=2)[("done", ("lost",))], 2)
        self.assertEqual(outcomes(tiny(), 2, silent=False, hearers=1)[("done", ("lost",))], 1)

    def test_endless_sendings_have_no_outcome(self):
        end = End([(1, 0, 0), (0, 1, "lost")], [(1, 0, "done")])
        self.assertEqual(outcomes(end, 0), {("done", ()): 0, ("silent", ()): 0})
        self.assertEqual(outcomes(end, 0, silent=False), {})

    def test_arguments_and_new_dicts(self):
        found = outcomes(wrong=1, end=tiny(), hearers=None, silent=True)
        self.assertEqual(found, outcomes(tiny(), 1))
        found.clear()
        self.assertNotEqual(outcomes(tiny(), 1), {})

    def test_wrong_bits_are_counted_from_zero(self):
        for end in random_ends(65, 10, 4):
            for silent in (True, False):
                least, more = outcomes(end, 1, silent=silent), outcomes(end, 3, silent=silent)
                self.assertEqual(least, {outcome: number for outcome, number in more.items() if number <= 1})


class TestExample(unittest.TestCase):
    def check(self, end, wrong, silent, hearers):
        for outcome, number in outcomes(end, wrong, silent=silent, hearers=hearers).items():
            told = example(end, outcome, wrong, silent=silent, hearers=hearers)
            self.assertIs(type(told), tuple)
            many, wrongs, silents = told
            place = (str(end), outcome, wrong, silent, hearers, told)
            self.assertEqual(sending(end, many, wrong=wrongs, silent=silents).result, outcome, place)
            self.assertEqual(len(wrongs), number, place)
            for faults in (wrongs, silents):
                self.assertIs(type(faults), tuple)
                self.assertEqual(list(faults), sorted(set(faults)), place)
                self.assertTrue(all(type(fault) is tuple for fault in faults))
            if hearers is not None:
                self.assertEqual(many, hearers, place)
            if not silent:
                self.assertEqual(silents, (), place)
            self.assertEqual(example(end, outcome, wrong, silent=silent, hearers=hearers), told)

    def test_small_ends(self):
        for end in random_ends(71, 30, 4):
            for wrong, silent, hearers in product((0, 1, 2), (True, False), (None, 1, 2, 5)):
                self.check(end, wrong, silent, hearers)
        for end in random_ends(72, 4, 4):
            for silent, hearers in product((True, False), (None, 1, 3, 19)):
                self.check(end, 3, silent, hearers)

    def test_families(self):
        for end in (voting_end(3, needed=2, rounds=2), counted_end(3, hearer=2, sender=3, flag=2, gap=2)):
            for wrong, silent, hearers in product((1, 2), (True, False), (None, 1, 2, 6)):
                self.check(end, wrong, silent, hearers)
        self.check(standard_end(), 2, True, None)

    def test_long_ways(self):
        # The sender counts 90 bits, and all but the last one of its rows put 1.
        sender = [(1, "again", index + 1) for index in range(89)] + [(0, "again", "done")]
        end = End([(1, "lost", 0), (0, 1, "lost")], sender)
        self.check(end, 2, True, None)
        self.check(end, 2, False, 4)

    def test_no_outcome_for_any_value(self):
        odd = ODD_VALUES + [
            ["done", ("taken",)], ("done", ["taken"]), ["done", ["taken"]], ("done", "taken"), ("done", ("taken",), ()),
            ("done",), ("done", ("taken", "taken")), ("done", ("taken", "lost")), (None, ("taken",)), (("done",), ()),
            ("Done", ("taken",)), ("taken", ("done",)), ("done", ("done",)), ("done", (("taken",),)), ("done", (1,)),
            {"done": ("taken",)}, ("done", {"taken": True}), ({}, ()), ([], []), ("done", None), ("done", (None,)),
            ("done", ({},)), ("done", ([],)), (True, ("taken",)), (0, 0), ("lost", ()), ("silent", ("silent",))]
        for silent, hearers in product((True, False), (None, 1, 2)):
            for value in odd:
                if value == ("silent", ()):
                    continue
                with self.assertRaises(NoOutcome) as caught:
                    example(tiny(), value, 1, silent=silent, hearers=hearers)
                self.assertIs(caught.exception.outcome, value)

    def test_no_outcome_within_so_many_wrong_bits(self):
        self.assertEqual(example(tiny(), ("done", ("lost", "taken")), 1, silent=False)[1], ((1, 1),))
        for outcome, wrong, silent, hearers in [
                (("done", ("lost", "taken")), 0, False, None), (("again", ("taken",)), 0, True, None),
                (("done", ("lost",)), 1, False, 2), (("silent", ()), 3, False, None),
                (("done", ("lost", "taken")), 3, True, 1), (("again", ("lost", "taken")), 1, False, None)]:
            with self.assertRaises(NoOutcome) as caught:
                example(tiny(), outcome, wrong, silent=silent, hearers=hearers)
            self.assertEqual(caught.exception.outcome, outcome)

    def test_arguments(self):
        told = example(wrong=1, outcome=("done", ("lost",)), end=tiny(), hearers=2, silent=True)
        self.assertEqual(told, example(tiny(), ("done", ("lost",)), 1, hearers=2))
        self.assertEqual(sending(tiny(), 2, wrong=list(told[1]), silent=list(told[2])).result, ("done", ("lost",)))


class TestLongest(unittest.TestCase):
    def test_all_sendings_with_so_many_hearers(self):
        for end in forward_ends(81, 30, 5):
            for (hearers, wrong), silent in product(FEW, (True, False)):
                expected = max(len(one) for number, silences, one in all_sendings(end, hearers, wrong, silent))
                self.assertEqual(longest(end, wrong, silent=silent, hearers=hearers), expected,
                                 (str(end), hearers, wrong, silent))

    def test_any_number_of_hearers(self):
        for end in forward_ends(82, 15, 5):
            for wrong, silent in product((0, 1), (True, False)):
                expected = max(len(one) for hearers in range(1, wrong + 2)
                               for number, silences, one in all_sendings(end, hearers, wrong, silent))
                self.assertEqual(longest(end, wrong, silent=silent), expected)

    def test_rings(self):
        rings = 0
        for end in random_ends(83, 60, 3):
            for (hearers, wrong), silent in product([(1, 0), (1, 1), (2, 1), (1, 2), (2, 0)], (True, False)):
                ring = has_ring(end, hearers, wrong, silent)
                rings += ring
                found = longest(end, wrong, silent=silent, hearers=hearers)
                self.assertEqual(found is None, ring, (str(end), hearers, wrong, silent))
        self.assertGreater(rings, 50)

    def test_a_ring_behind_faults(self):
        # Only a sender that hears a bit 0 twice comes into its ring, and there are none without wrong bits.
        end = End([(1, "lost", "taken"), (1, "lost", "lost")], [(1, 1, "done"), (1, 2, "again"), (1, 2, 2)])
        self.assertEqual([longest(end, wrong, silent=False) for wrong in range(4)], [1, 2, None, None])
        self.assertEqual([longest(end, wrong) for wrong in range(4)], [1, 2, None, None])
        hearer = [(1, "lost", "taken"), (1, 2, "lost"), (1, "lost", 2)]
        self.assertEqual([longest(End(hearer, [(1, "again", "done")]), wrong, hearers=2) for wrong in range(3)],
                         [1, 1, None])

    def test_a_ring_by_silences_only(self):
        # The hearer waits until the sender puts 0.
        end = End([(1, "taken", 0), (1, "lost", "lost")], [(0, "done", "done")])
        self.assertEqual(longest(end, 0, silent=False), 1)
        self.assertIsNone(longest(end, 0))
        self.assertIsNone(longest(end, 1, silent=False))

    def test_families(self):
        self.assertEqual(longest(voting_end(5, needed=3), 3), 5)
        self.assertEqual(longest(voting_end(4, needed=2, rounds=3), 2, silent=False), 12)
        self.assertEqual(longest(standard_end(), 0, silent=False), 7)
        self.assertEqual(longest(counted_end(1, hearer=1, sender=1, flag=2, gap=1), 0, silent=False), 1)
        # A hearer of a wrong body puts its flag at the bits 1 and 2. The sender hears it at bit 1 and puts its own one
        # at the bits 2 and 3. Bit 4 is the gap.
        self.assertEqual(longest(counted_end(1, hearer=1, sender=1, flag=2, gap=1), 1, silent=False, hearers=1), 4)

    def test_arguments(self):
        self.assertEqual(longest(wrong=1, end=tiny(), silent=False, hearers=3), 1)


class TestTooMany(unittest.TestCase):
    def check(self, function, *arguments, **named):
        with self.assertRaises(TooMany) as caught:
            function(standard_end(), *arguments, **named)
        self.assertEqual(caught.exception.limit, 5000)

    def test_ahead_of_all_else(self):
        for silent, hearers in [(True, None), (True, 4), (True, 19), (False, None)]:
            self.check(outcomes, 3, silent=silent, hearers=hearers)
            self.check(longest, 3, silent=silent, hearers=hearers)
            for outcome in [("done", ("taken",)), ["done", []], ("done", {})]:
                self.check(example, outcome, 3, silent=silent, hearers=hearers)

    def test_as_standings(self):
        for hearers in (1, 2, 3):
            try:
                standings(standard_end(), 3, silent=False, hearers=hearers)
            except TooMany:
                self.check(outcomes, 3, silent=False, hearers=hearers)
            else:
                self.assertIn(("done", ("taken",)), outcomes(standard_end(), 3, silent=False, hearers=hearers))


if __name__ == "__main__":
    unittest.main()
