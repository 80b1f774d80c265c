"""What ends show, ends that are alike, least forms: promises 9 and 10."""

import random
import unittest

from strongbit import alike
from strongbit.alike import least, parting, shown
from strongbit.ends import End

from samples import STARTS, TINY_HEARER, TINY_SENDER, all_bits, random_ends, tiny

SENDER = [(1, "again", "done")]


def plain_parting(one, other, longest):
    """The parting of two ends, found by trying all tuples of bits in order."""
    for length in range(longest + 1):
        for start in STARTS:
            for bits in all_bits(length):
                if len(bits) == length and shown(one, start, bits) != shown(other, start, bits):
                    return start, bits
    return None


def renumbered(source, rows, fixed):
    """A machine with its rows, but the first ones, in another order, and with further copies of rows."""
    order = list(range(fixed, len(rows)))
    source.shuffle(order)
    order = list(range(fixed)) + order
    copies = order + [source.choice(order) for index in range(3)]
    places = {}
    for new, old in enumerate(copies):
        places.setdefault(old, []).append(new)

    def place(follower):
        return follower if isinstance(follower, str) else source.choice(places[follower])

    return [(rows[old][0], place(rows[old][1]), place(rows[old][2])) for old in copies]


class TestShown(unittest.TestCase):
    def test_ahead_of_all_bits(self):
        self.assertEqual(shown(tiny(), "right", ()), ("put", 1))
        self.assertEqual(shown(tiny(), "wrong", ()), ("put", 0))
        self.assertEqual(shown(tiny(), "sender", ()), ("put", 1))

    def test_words_from_each_start(self):
        self.assertEqual(shown(tiny(), "right", (0,)), ("word", "lost"))
        self.assertEqual(shown(tiny(), "right", (1,)), ("word", "taken"))
        self.assertEqual(shown(tiny(), "wrong", (0,)), ("word", "lost"))
        self.assertEqual(shown(tiny(), "wrong", (1,)), ("word", "lost"))
        self.assertEqual(shown(tiny(), "sender", (0,)), ("word", "again"))
        self.assertEqual(shown(tiny(), "sender", (1,)), ("word", "done"))

    def test_rows_that_follow(self):
        end = End([(1, 2, 0), (0, 1, 3), (0, "taken", 0), (1, 1, "lost")], [(0, 1, "done"), (1, "again", 0)])
        self.assertEqual(shown(end, "right", (1, 1, 1)), ("put", 1))
        self.assertEqual(shown(end, "right", (1, 0)), ("put", 0))
        self.assertEqual(shown(end, "right", (1, 0, 1)), ("put", 1))
        self.assertEqual(shown(end, "right", (1, 0, 0)), ("word", "taken"))
        self.assertEqual(shown(end, "wrong", (0, 0, 1)), ("put", 1))
        self.assertEqual(shown(end, "wrong", (0, 1, 0, 1, 1)), ("word", "lost"))
        self.assertEqual(shown(end, "sender", (0,)), ("put", 1))
        self.assertEqual(shown(end, "sender", (0, 1)), ("put", 0))
        self.assertEqual(shown(end, "sender", (0, 1, 0, 0)), ("word", "again"))

    def test_bits_behind_a_word_are_not_looked_at(self):
        for start in STARTS:
            for bit in (0, 1):
                word = shown(tiny(), start, (bit,))
                for behind in all_bits(4):
                    self.assertEqual(shown(tiny(), start, (bit, *behind)), word)
                self.assertEqual(shown(tiny(), start, (bit, None, "x", 7, -1)), word)

    def test_lists_and_names(self):
        bits = [1, 0]
        self.assertEqual(shown(end=tiny(), start="sender", bits=bits), ("word", "done"))
        self.assertEqual(bits, [1, 0])

    def test_long_ways(self):
        end = End([(1, "lost", index + 1) for index in range(99)] + [(0, "lost", "lost")], SENDER)
        self.assertEqual(shown(end, "right", (1,) * 98), ("put", 1))
        self.assertEqual(shown(end, "right", (1,) * 99), ("put", 0))
        self.assertEqual(shown(end, "wrong", (1,) * 98), ("put", 0))
        self.assertEqual(shown(end, "right", (1,) * 100), ("word", "lost"))
        loop = End([(1, 0, 0), (0, 1, 1)], SENDER)
        self.assertEqual(shown(loop, "wrong", (0, 1) * 3000), ("put", 0))


class TestParting(unittest.TestCase):
    def test_alike_ends(self):
        self.assertIsNone(parting(tiny(), tiny()))
        further = End([(1, 3, "taken"), (0, "lost", "lost"), (0, 0, 2), (1, "lost", "lost")], SENDER)
        same = End([(1, 2, "taken"), (0, "lost", "lost"), (1, "lost", "lost")], SENDER)
        self.assertIsNone(parting(further, same))
        self.assertIsNone(parting(same, further))

    def test_endless_rows_that_are_alike(self):
        one = End([(1, 0, 0), (0, 1, 1)], [(1, 0, 0)])
        other = End([(1, 2, 0), (0, 3, 1), (1, 2, 0), (0, 1, 3)], [(1, 1, 2), (1, 0, 2), (1, 1, 1)])
        self.assertIsNone(parting(one, other))

    def test_no_bits(self):
        self.assertEqual(parting(tiny(), End([(0, "lost", "taken"), TINY_HEARER[1]], SENDER)), ("right", ()))
        self.assertEqual(parting(tiny(), End([TINY_HEARER[0], (1, "lost", "lost")], SENDER)), ("wrong", ()))
        self.assertEqual(parting(tiny(), End(TINY_HEARER, [(0, "again", "done")])), ("sender", ()))

    def test_one_bit(self):
        self.assertEqual(parting(tiny(), End([(1, "lost", "lost"), TINY_HEARER[1]], SENDER)), ("right", (1,)))
        self.assertEqual(parting(tiny(), End([(1, "taken", "taken"), TINY_HEARER[1]], SENDER)), ("right", (0,)))
        self.assertEqual(parting(tiny(), End(TINY_HEARER, [(1, "done", "done")])), ("sender", (0,)))
        self.assertEqual(parting(tiny(), End(TINY_HEARER, [(1, "again", "again")])), ("sender", (1,)))

    def test_a_word_and_a_row(self):
        other = End([TINY_HEARER[0], (0, "lost", 1)], SENDER)
        self.assertEqual(parting(tiny(), other), ("wrong", (1,)))
        self.assertEqual(parting(other, tiny()), ("wrong", (1,)))

    def test_fewest_bits_go_ahead_of_the_first_start(self):
        one = End([(1, "lost", 2), (0, "lost", "lost"), (1, "lost", "taken")], SENDER)
        other = End([(1, "lost", 2), (0, "lost", "lost"), (1, "lost", "lost")], [(1, "again", "again")])
        self.assertEqual(parting(one, other), ("sender", (1,)))
        other = End([(1, "lost", 2), (1, "lost", "lost"), (1, "lost", "lost")], [(1, "again", "again")])
        self.assertEqual(parting(one, other), ("wrong", ()))

    def test_the_first_start_goes_ahead_of_the_least_bits(self):
        other = End([(1, "lost", "lost"), (0, 1, "lost")], [(1, "done", "done")])
        self.assertEqual(parting(tiny(), other), ("right", (1,)))
        other = End([(1, "lost", "taken"), (0, "lost", 1)], [(1, "done", "done")])
        self.assertEqual(parting(tiny(), other), ("wrong", (1,)))

    def test_the_least_of_equally_many_bits(self):
        rows = [(1, 2, 3), (0, "lost", "lost"), (1, "lost", "taken"), (1, "lost", "taken")]
        one = End(rows, SENDER)
        changed = [rows[0], rows[1], (1, "lost", "lost"), (1, "taken", "taken")]
        self.assertEqual(parting(one, End(changed, SENDER)), ("right", (0, 1)))
        changed = [rows[0], rows[1], rows[2], (1, "taken", "lost")]
        self.assertEqual(parting(one, End(changed, SENDER)), ("right", (1, 0)))

    def test_long_ways(self):
        rows = [(1, 0, index + 1) for index in range(99)] + [(1, 0, 0)]
        one = End([(1, 0, 0), (1, 1, 1)], [(1, 0, 0)])
        other = End([(1, 0, 0), (1, 1, 1)], rows[:99] + [(0, 0, 0)])
        self.assertIsNone(parting(one, End([(1, 0, 0), (1, 1, 1)], rows)))
        self.assertEqual(parting(one, other), ("sender", (1,) * 99))

    def test_rings_of_different_lengths(self):
        def ring(length):
            rows = [(0, 1, 1)] + [(1, index + 1, index + 1) for index in range(1, length)]
            rows[-1] = (1, 0, 0)
            return rows

        one = End(TINY_HEARER, ring(8))
        other = End(TINY_HEARER, ring(7))
        self.assertEqual(parting(one, other), ("sender", (0,) * 7))

    def test_all_pairs_of_random_ends_as_by_trying(self):
        ends = random_ends(3, 24, 3)
        for one in ends:
            for other in ends:
                self.assertEqual(parting(one, other), plain_parting(one, other, 6))

    def test_ends_with_one_changed_row_as_by_trying(self):
        source = random.Random(4)
        for end in random_ends(5, 150, 4):
            rows = list(end.sender)
            rows[source.randrange(len(rows))] = (1, source.randrange(len(rows)), source.choice(("done", "again")))
            other = End(end.hearer, rows)
            self.assertEqual(parting(end, other), plain_parting(end, other, 8))
            self.assertEqual(parting(one=other, other=end), parting(end, other))


class TestLeast(unittest.TestCase):
    def check(self, hearer, least_hearer, sender=SENDER, least_sender=SENDER):
        self.assertEqual(least(End(hearer, sender)), End(least_hearer, least_sender))

    def test_an_end_in_least_form(self):
        end = tiny()
        self.assertEqual(least(end), tiny())
        self.assertEqual(least(end=end), tiny())
        self.assertEqual(end, End(TINY_HEARER, TINY_SENDER))

    def test_rows_that_are_alike(self):
        self.check([(1, 2, 3), (0, "lost", "lost"), (0, 2, "taken"), (0, 3, "taken")],
                   [(1, 2, 2), (0, "lost", "lost"), (0, 2, "taken")])
        self.check(TINY_HEARER, TINY_HEARER, [(1, 1, 2), (0, 2, "done"), (0, 1, "done")], [(1, 1, 1), (0, 1, "done")])

    def test_rows_that_are_alike_only_by_the_rows_behind_them(self):
        hearer = [(1, 2, 3), (0, "lost", "lost"), (1, "lost", 4), (1, "lost", 5), (0, "taken", 2), (0, "taken", 3)]
        self.check(hearer, [(1, 2, 2), (0, "lost", "lost"), (1, "lost", 3), (0, "taken", 2)])
        hearer[5] = (0, "lost", 3)
        self.check(hearer, hearer)

    def test_rows_that_nothing_leads_to(self):
        self.check([(1, "lost", "taken"), (0, "lost", "lost"), (1, 3, 0), (0, "taken", 2)], TINY_HEARER,
                   [(1, "again", "done"), (0, 0, 1)], SENDER)
        self.check([(1, 4, "taken"), (0, "lost", "lost"), (1, 3, 0), (0, "taken", 2), (0, 4, "taken")],
                   [(1, 2, "taken"), (0, "lost", "lost"), (0, 2, "taken")])

    def test_rows_alike_to_row_0(self):
        self.check([(1, 2, "taken"), (0, "lost", "lost"), (1, 0, "taken")],
                   [(1, 0, "taken"), (0, "lost", "lost")])
        self.check(TINY_HEARER, TINY_HEARER, [(1, 1, "done"), (1, 0, "done")], [(1, 0, "done")])

    def test_rows_alike_to_row_1(self):
        self.check([(1, 2, "taken"), (0, "lost", "lost"), (0, "lost", "lost")],
                   [(1, 1, "taken"), (0, "lost", "lost")])
        self.check([(1, 1, "taken"), (0, 2, "lost"), (0, 1, "lost")],
                   [(1, 1, "taken"), (0, 1, "lost")])

    def test_rows_alike_to_rows_0_and_1(self):
        self.check([(1, "lost", "lost"), (1, "lost", "lost")], [(1, "lost", "lost"), (1, "lost", "lost")])
        self.check([(1, 0, 1), (1, 1, 0)], [(1, 0, 0), (1, 0, 0)])
        self.check([(1, 1, 2), (1, 2, 1), (1, 2, 0)], [(1, 0, 0), (1, 0, 0)])
        self.check([(0, 1, "lost"), (0, 1, "lost")], [(0, 0, "lost"), (0, 0, "lost")])
        self.check([(0, 2, "lost"), (0, 3, "lost"), (1, 1, 0), (1, 0, 1)],
                   [(0, 2, "lost"), (0, 2, "lost"), (1, 0, 0)])

    def test_numbers_in_the_order_in_which_rows_are_met(self):
        self.check([(1, 4, 3), (0, 2, "lost"), (1, "lost", "lost"), (0, "taken", 5), (0, 1, "taken"), (1, 0, "taken")],
                   [(1, 2, 3), (0, 4, "lost"), (0, 1, "taken"), (0, "taken", 5), (1, "lost", "lost"),
                    (1, 0, "taken")])
        self.check(TINY_HEARER, TINY_HEARER, [(1, 3, 1), (1, 2, "done"), (0, "done", "again"), (0, 1, "done")],
                   [(1, 1, 2), (0, 2, "done"), (1, 3, "done"), (0, "done", "again")])

    def test_the_same_words_and_bits_in_another_order_are_not_alike(self):
        hearer = [(1, 2, 3), (0, "lost", "lost"), (1, "lost", "taken"), (1, "taken", "lost")]
        self.check(hearer, hearer)

    def test_a_hundred_rows(self):
        chain = [(1, "lost", index + 1) for index in range(99)] + [(0, "lost", "lost")]
        chain[0] = (1, "taken", 2)
        straight = [(1, "taken", 2), (1, "lost", 2)] + chain[2:]
        self.assertEqual(least(End(straight, SENDER)), End(straight, SENDER))
        self.check([(1, index * 7 % 100, index * 3 % 100) for index in range(100)], [(1, 0, 0), (1, 0, 0)],
                   [(0, (index + 1) % 100, 99 - index) for index in range(100)], [(0, 0, 0)])

    def check_form(self, end, form):
        """That an end has all that [10] says of the least form."""
        self.assertIsNone(parting(end, form))
        for rows, fixed in ((form.hearer, 2), (form.sender, 1)):
            met = list(range(fixed))
            at = 0
            while at < len(met):
                for follower in rows[met[at]][1:]:
                    if not isinstance(follower, str) and follower not in met:
                        met.append(follower)
                at += 1
            self.assertEqual(met, list(range(len(rows))))
        self.check_no_two_alike(form.sender, 1)
        self.check_no_two_alike(form.hearer, 2)

    def check_no_two_alike(self, rows, fixed):
        def showing(place, bits):
            for bit in bits:
                if isinstance(place, str):
                    return place
                place = rows[place][1 + bit]
            return place if isinstance(place, str) else rows[place][0]

        pictures = [[showing(index, bits) for bits in all_bits(len(rows))] for index in range(len(rows))]
        for later in range(len(rows)):
            for earlier in range(later):
                if (earlier, later, fixed) != (0, 1, 2):
                    self.assertNotEqual(pictures[earlier], pictures[later])
        if fixed == 2 and pictures[0] == pictures[1]:
            for row in rows:
                self.assertNotIn(1, row[1:])

    def test_random_ends_have_the_form(self):
        for end in random_ends(6, 150, 5):
            form = least(end)
            self.check_form(end, form)
            self.assertEqual(least(form), form)

    def test_other_orders_and_copies_of_rows_give_the_same_form(self):
        source = random.Random(7)
        for end in random_ends(8, 150, 7):
            other = End(renumbered(source, end.hearer, 2), renumbered(source, end.sender, 1))
            self.assertIsNone(parting(end, other))
            self.assertEqual(least(other), least(end))

    def test_ends_are_alike_exactly_if_their_least_forms_are_equal(self):
        ends = random_ends(9, 60, 2)
        for one in ends:
            for other in ends:
                self.assertEqual(parting(one, other) is None, least(one) == least(other))


class TestInterface(unittest.TestCase):
    def test_functions_are_defined_in_their_file(self):
        for function in (shown, parting, least):
            self.assertEqual(function.__module__, alike.__name__)


if __name__ == "__main__":
    unittest.main()
