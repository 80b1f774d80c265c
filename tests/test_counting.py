"""Promise [24]: counting the choices of wrong faults."""

import unittest
from itertools import combinations, product

from strongbit.counting import ways
from strongbit.ends import End
from strongbit.errors import BadFault, Endless, TooMany, Unbounded
from strongbit.families import counted_end, standard_end, voting_end
from strongbit.outcomes import longest
from strongbit.sendings import sending

from models import all_sendings, forward_ends
from samples import random_ends, rings, tiny


def plain_ways(end, hearers, wrong):
    """The number of choices of each count, by all sendings with so many wrong faults."""
    found = {}
    for number, silences, one in all_sendings(end, hearers, wrong, False):
        if number == wrong:
            count = (one.words[0], one.words[1:].count("taken"))
            found[count] = found.get(count, 0) + 1
    return found


def tried_ways(end, hearers, wrong, bits):
    """The same by trying all sets of so many faults up to a bit."""
    found = {}
    for faults in combinations(list(product(range(bits + 1), range(hearers + 1))), wrong):
        try:
            words = sending(end, hearers, wrong=list(faults)).words
        except BadFault:
            continue
        count = (words[0], words[1:].count("taken"))
        found[count] = found.get(count, 0) + 1
    return found


def over(many, few):
    """In how many ways so few of so many can be chosen, for few up to 3."""
    return [1, many, many * (many - 1) // 2, many * (many - 1) * (many - 2) // 6][few]


class TestWays(unittest.TestCase):
    def test_the_example_of_the_document(self):
        self.assertEqual(sorted(ways(tiny(), 2, 1).items()), [(("again", 0), 2), (("again", 2), 1), (("done", 1), 2)])

    def test_no_wrong_faults(self):
        for hearers in (1, 2, 5, 10 ** 9):
            self.assertEqual(ways(tiny(), hearers, 0), {("done", hearers): 1})
            self.assertEqual(ways(standard_end(), hearers, 0), {("done", hearers): 1})

    def test_all_choices_of_few_hearers(self):
        for end in forward_ends(101, 60, 4):
            for hearers, wrong in [(1, 0), (1, 1), (1, 2), (1, 3), (2, 0), (2, 1), (2, 2), (2, 3), (3, 1), (3, 2),
                                   (4, 1), (4, 2)]:
                self.assertEqual(ways(end, hearers, wrong), plain_ways(end, hearers, wrong),
                                 (str(end), hearers, wrong))
        for end in forward_ends(102, 10, 3):
            for hearers, wrong in [(3, 3), (4, 3), (5, 2)]:
                self.assertEqual(ways(end, hearers, wrong), plain_ways(end, hearers, wrong))

    def test_all_sets_of_faults_tried(self):
        for end in forward_ends(103, 8, 4):
            bits = longest(end, 2, silent=False, hearers=2)
            for hearers, wrong in [(1, 1), (1, 2), (2, 1), (2, 2)]:
                self.assertEqual(ways(end, hearers, wrong), tried_ways(end, hearers, wrong, bits))

    def test_families(self):
        self.assertEqual(ways(voting_end(2, needed=2), 2, 2), plain_ways(voting_end(2, needed=2), 2, 2))
        end = voting_end(1, needed=1, rounds=3)
        self.assertEqual(ways(end, 3, 2), plain_ways(end, 3, 2))
        end = counted_end(2, hearer=1, sender=2, flag=1, gap=1)
        for hearers, wrong in [(1, 1), (1, 2), (2, 1), (2, 2), (3, 1)]:
            self.assertEqual(ways(end, hearers, wrong), plain_ways(end, hearers, wrong))

    def test_one_wrong_fault_of_many_hearers(self):
        # A wrong body makes all lose the frame and the sender send again. A wrong bit of the sender makes it send
        # again what all have. A wrong bit of a hearer makes this one lose it.
        for hearers in (1, 2, 7, 19, 10 ** 6, 10 ** 9):
            expected = {("again", 0): hearers, ("again", hearers): 1, ("done", hearers - 1): hearers}
            self.assertEqual(ways(tiny(), hearers, 1), expected)

    def test_two_wrong_faults_of_many_hearers(self):
        for hearers in (4, 50, 10 ** 9):
            pairs = over(hearers, 2)
            self.assertEqual(ways(tiny(), hearers, 2), {
                # Two wrong bodies, or a hearer that hears both the body and bit 1 wrongly.
                ("again", 0): pairs + hearers,
                # One wrong body, and bit 1 is wrong for the sender or for another hearer.
                ("done", 0): hearers, ("again", 1): hearers * (hearers - 1),
                # Bit 1 is wrong for two hearers, or for the sender and a hearer.
                ("done", hearers - 2): pairs, ("again", hearers - 1): hearers})

    def test_two_and_three_wrong_faults_by_the_numbers_of_each_sort(self):
        for hearers, wrong in product((1, 2, 3, 4, 5, 10, 10 ** 6, 10 ** 9), (0, 1, 2, 3)):
            self.assertEqual(ways(tiny(), hearers, wrong), reckoned_ways(hearers, wrong))

    def test_great_numbers(self):
        self.assertEqual(ways(tiny(), 10 ** 9, 3)[("done", 10 ** 9 - 3)], 166666666166666667000000000)
        # A vote of three bits: two wrong ones warn a hearer, and one is without effect.
        end = voting_end(3, needed=2)
        many = 10 ** 9
        self.assertEqual(ways(end, many, 1), {("done", many): 3 * many + 3, ("again", 0): many})

    def test_counts_without_ways_are_not_there(self):
        for end in forward_ends(104, 30, 4):
            for wrong in (0, 1, 2):
                for hearers in (1, 3, 10 ** 9):
                    found = ways(end, hearers, wrong)
                    self.assertTrue(all(number > 0 for number in found.values()))
                    self.assertTrue(all(type(count) is tuple and 0 <= count[1] <= hearers for count in found))
        self.assertEqual(ways(tiny(), 1, 3), {("done", 0): 1})

    def test_all_ways_together(self):
        # Each choice of the sending of one bit is a set of bodies and of bits 1.
        for hearers in (1, 2, 3, 40, 10 ** 9):
            for wrong in range(4):
                self.assertEqual(sum(ways(tiny(), hearers, wrong).values()), over(2 * hearers + 1, wrong))

    def test_arguments_and_new_dicts(self):
        found = ways(wrong=1, hearers=2, end=tiny())
        found.clear()
        self.assertEqual(len(ways(tiny(), 2, 1)), 3)


def reckoned_ways(hearers, wrong):
    """The ways of tiny by hand.

    The line has 1 if there is no wrong body, otherwise 0. The hearers of a wrong body lose the frame whatever they
    hear. Each one of the others has it if it heard the bit 1.
    """
    found = {}
    for bodies, of_bodies, sender in product(range(wrong + 1), range(wrong + 1), (0, 1)):
        others = wrong - bodies - of_bodies - sender
        if others < 0:
            continue
        number = over(hearers, bodies) * over(bodies, of_bodies) * over(hearers - bodies, others)
        count = ("again" if (sender == 1) == (bodies == 0) else "done", others if bodies else hearers - others)
        found[count] = found.get(count, 0) + number
    return {count: number for count, number in found.items() if number > 0}


class TestErrors(unittest.TestCase):
    def test_unbounded_exactly_if_a_sending_is_endless(self):
        rings = 0
        for end in random_ends(105, 80, 3):
            for hearers, wrong in product((1, 2, 3), (0, 1, 2)):
                if longest(end, wrong, silent=False, hearers=hearers) is None:
                    rings += 1
                    with self.assertRaises(Unbounded):
                        ways(end, hearers, wrong)
                else:
                    self.assertGreater(sum(ways(end, hearers, wrong).values()), 0)
        self.assertGreater(rings, 50)

    def test_rings_with_fewer_wrong_faults(self):
        # One wrong body comes into a ring, unless the hearer hears wrongly once more.
        end = End([(1, "lost", "taken"), (1, "lost", 1)], [(1, "again", "done")])
        self.assertEqual(ways(end, 3, 0), {("done", 3): 1})
        with self.assertRaises(Endless):
            sending(end, 3, wrong=[(0, 1)])
        for wrong in (1, 2, 3):
            with self.assertRaises(Unbounded):
                ways(end, 3, wrong)

    def test_rings_by_silences_do_not_count(self):
        end = End([(1, "taken", 0), (1, "lost", "lost")], [(0, "done", "done")])
        self.assertEqual(ways(end, 5, 0), {("done", 5): 1})

    def test_too_many_ahead_of_it(self):
        with self.assertRaises(Unbounded):
            ways(rings(50, 99, 0), 1, 0)
        with self.assertRaises(Unbounded):
            ways(rings(51, 98, 2), 10 ** 9, 0)
        for hearers in (1, 10 ** 9):
            with self.assertRaises(TooMany) as caught:
                ways(rings(51, 98, 3), hearers, 0)
            self.assertEqual(caught.exception.limit, 5000)

    def test_standings_of_exactly_so_many_hearers_and_without_silences(self):
        # One hearer and 3 wrong bits have few standings, two hearers with silences many.
        for hearers in (1, 2, 10 ** 9):
            self.assertGreater(sum(ways(standard_end(), hearers, 3).values()), 0)
        # Without further faults there are 7 bits, each of two stations, and a body.
        self.assertEqual(sum(ways(standard_end(), 1, 1).values()), 15)


if __name__ == "__main__":
    unittest.main()
