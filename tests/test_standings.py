"""Standings, starts and moves: promises 18 to 20, and the standings of an end of 26."""

import inspect
import random
import unittest
from itertools import product

from strongbit import standings as module
from strongbit.ends import End
from strongbit.errors import TooMany
from strongbit.families import counted_end, standard_end, voting_end
from strongbit.standings import is_over, is_standing, moves, standings, starts

from plain import plain_standings
from samples import ODD_VALUES, random_end, random_ends, rings, tiny

# Rows that differ in what they put and in what follows, and that do not end at once.
LONGER = End([(1, 2, 3), (0, 1, "lost"), (0, 3, "taken"), (1, "taken", "lost")], [(1, 0, 1), (0, "again", "done")])


class TestStarts(unittest.TestCase):
    def test_without_wrong_bits(self):
        self.assertEqual(starts(0), [(0, 0, 0, 1, ())])

    def test_one_wrong_bit(self):
        self.assertEqual(sorted(starts(1), key=repr), sorted([
            (1, 0, 0, 1, ()), (1, 0, 0, 2, ()), (0, 0, None, 0, (1,)), (0, 0, 0, 1, (1,))], key=repr))

    def test_two_wrong_bits(self):
        self.assertEqual(sorted(starts(2), key=repr), sorted([
            (2, 0, 0, 1, ()), (2, 0, 0, 2, ()), (2, 0, 0, 3, ()), (1, 0, None, 0, (1,)), (1, 0, 0, 1, (1,)),
            (1, 0, 0, 2, (1,)), (0, 0, None, 0, (1, 1)), (0, 0, 0, 1, (1, 1))], key=repr))

    def test_exactly_so_many_hearers(self):
        self.assertEqual(starts(0, hearers=1), [(0, 0, 0, 1, ())])
        self.assertEqual(starts(0, hearers=19), [(0, 0, 0, 1, ())])
        self.assertEqual(set(starts(1, hearers=1)), {(1, 0, 0, 1, ()), (0, 0, None, 0, (1,))})
        self.assertEqual(set(starts(1, hearers=2)), {(1, 0, 0, 2, ()), (0, 0, 0, 1, (1,))})
        self.assertEqual(set(starts(1, hearers=19)), {(1, 0, 0, 2, ()), (0, 0, 0, 1, (1,))})
        self.assertEqual(set(starts(3, hearers=1)), {(3, 0, 0, 1, ()), (2, 0, None, 0, (1,))})
        self.assertEqual(set(starts(3, hearers=2)), {(3, 0, 0, 2, ()), (2, 0, 0, 1, (1,)), (1, 0, None, 0, (1, 1))})
        self.assertEqual(set(starts(3, hearers=4)), {(3, 0, 0, 4, ()), (2, 0, 0, 3, (1,)), (1, 0, 0, 2, (1, 1)),
                                                     (0, 0, 0, 1, (1, 1, 1))})
        self.assertEqual(set(starts(3, hearers=5)), set(starts(3, hearers=4)))

    def test_numbers_of_hearers_together_give_any_number(self):
        for wrong in range(4):
            found = starts(wrong)
            self.assertEqual(len(found), len(set(found)))
            exact = [starts(wrong, hearers=hearers) for hearers in range(1, 20)]
            self.assertEqual(set(found), {start for some in exact for start in some})
            for hearers in range(1, 20):
                self.assertEqual(len(exact[hearers - 1]), min(wrong, hearers) + 1)
                self.assertEqual(len(set(exact[hearers - 1])), min(wrong, hearers) + 1)

    def test_kinds_and_names(self):
        self.assertIs(type(starts(2)), list)
        self.assertEqual(starts(wrong=2, hearers=None), starts(2))
        self.assertIsNot(starts(1), starts(1))
        for function, signature in [
                (starts, "(wrong, *, hearers=None)"), (moves, "(end, standing, *, silent=True)"),
                (is_over, "(standing)"), (is_standing, "(end, thing)"),
                (standings, "(end, wrong, *, silent=True, hearers=None)")]:
            self.assertEqual(str(inspect.signature(function)), signature)
            self.assertEqual(function.__module__, module.__name__)
        with self.assertRaises(TypeError):
            starts(2, 1)


class TestIsOver(unittest.TestCase):
    def test_over(self):
        for standing in [(0, "done", "taken", 1, ()), (2, "again", None, 0, ()), (0, "silent", "lost", 1, ("taken",)),
                         (1, "silent", None, 0, ()), (0, "done", None, 0, ("lost", "lost", "taken"))]:
            self.assertIs(is_over(standing), True)
            self.assertIs(is_over(standing=list(standing)), True)

    def test_somebody_has_a_row(self):
        for standing in [(0, 0, "taken", 1, ()), (2, "again", 0, 3, ()), (0, "silent", "lost", 1, (0, "taken")),
                         (1, "silent", 5, 1, ()), (0, "done", None, 0, (0,)), (0, 0, None, 0, ()), (1, 3, 2, 1, (7, 9))]:
            self.assertIs(is_over(standing), False)
            self.assertIs(is_over(list(standing)), False)


class TestMoves(unittest.TestCase):
    def check(self, end, standing, silent, expected):
        found = moves(end, standing, silent=silent)
        self.assertIs(type(found), list)
        self.assertEqual(len(found), len(set(found)))
        self.assertEqual(set(found), set(expected))

    def test_none_if_it_is_over(self):
        for silent in (True, False):
            for standing in [(2, "done", "taken", 1, ()), (2, "silent", None, 0, ()), (1, "again", None, 0, ("lost",))]:
                self.check(tiny(), standing, silent, [])

    def test_without_wrong_bits(self):
        self.check(tiny(), (0, 0, 0, 1, ()), False, [(0, "done", "taken", 1, ())])
        self.check(tiny(), (0, 0, 0, 1, (1,)), False, [(0, "again", "lost", 1, ("lost",))])
        self.check(LONGER, (0, 0, 0, 1, ()), False, [(0, 1, 3, 1, ())])
        self.check(LONGER, (0, 1, 3, 1, ()), False, [(0, "again", "taken", 1, ())])

    def test_one_wrong_bit(self):
        self.check(tiny(), (1, 0, 0, 1, ()), False, [
            (1, "done", "taken", 1, ()), (0, "again", "taken", 1, ()), (0, "done", None, 0, ("lost",))])
        self.check(tiny(), (1, 0, 0, 2, ()), False, [
            (1, "done", "taken", 1, ()), (0, "again", "taken", 1, ()), (0, "done", "taken", 1, ("lost",))])

    def test_the_crowd_in_a_row_is_counted(self):
        self.check(LONGER, (2, 0, 0, 3, ()), False, [
            (2, 1, 3, 3, ()), (1, 0, 3, 2, ()), (1, 1, 3, 2, (2,)), (0, 0, 3, 1, (2,)), (0, 1, 3, 1, (2, 2))])
        self.check(LONGER, (2, 0, 0, 2, ()), False, [
            (2, 1, 3, 2, ()), (1, 0, 3, 2, ()), (1, 1, 3, 1, (2,)), (0, 0, 3, 1, (2,)), (0, 1, None, 0, (2, 2))])
        self.check(LONGER, (2, 0, 0, 1, ()), False, [
            (2, 1, 3, 1, ()), (1, 0, 3, 1, ()), (1, 1, None, 0, (2,)), (0, 0, None, 0, (2,))])

    def test_wrong_bits_of_those_that_were_hit(self):
        # Both rows of hit put 0, so the line has 0; words in hit stay and come last.
        self.check(LONGER, (1, "done", None, 0, (1, 2, "lost")), False, [
            (1, "done", None, 0, (1, 3, "lost")), (0, "done", None, 0, (3, "lost", "lost")),
            (0, "done", None, 0, (1, "lost", "taken"))])
        self.check(LONGER, (2, "again", "taken", 1, (2, 2)), False, [
            (2, "again", "taken", 1, (3, 3)), (1, "again", "taken", 1, (3, "taken")),
            (0, "again", "taken", 1, ("taken", "taken"))])

    def test_a_word_of_the_crowd_stays(self):
        self.check(tiny(), (1, 0, "lost", 1, ()), False, [(1, "done", "lost", 1, ()), (0, "again", "lost", 1, ())])
        self.check(tiny(), (0, 0, None, 0, ()), False, [(0, "done", None, 0, ())])

    def test_silences(self):
        self.check(tiny(), (0, 0, 0, 1, ()), True, [
            (0, "done", "taken", 1, ()), (0, "done", None, 0, ()), (0, "silent", "taken", 1, ()),
            (0, "silent", None, 0, ())])
        self.check(LONGER, (0, "again", None, 0, (1, 2)), True, [
            (0, "again", None, 0, places) for places in [(1, 3), (1,), (3,), ()]])
        self.check(LONGER, (1, "done", 3, 2, ()), True, [
            (1, "done", "lost", 1, ()), (0, "done", "lost", 1, ("taken",)), (0, "done", None, 0, ("taken",)),
            (1, "done", None, 0, ())])

    def test_silences_of_the_crowd_in_a_row(self):
        # Three of left + 1 stand for all greater numbers, so any number may remain.
        end = End([(1, 0, 0), (0, "lost", "lost")], [(1, "again", "done")])
        self.check(end, (2, "done", 0, 3, ()), False, [(2, "done", 0, 3, ()), (1, "done", 0, 2, (0,)),
                                                       (0, "done", 0, 1, (0, 0))])
        self.check(end, (2, "done", 0, 3, ()), True, [
            (2, "done", 0, 3, ()), (2, "done", 0, 2, ()), (2, "done", 0, 1, ()), (2, "done", None, 0, ()),
            (1, "done", 0, 2, (0,)), (1, "done", 0, 1, (0,)), (1, "done", None, 0, (0,)),
            (0, "done", 0, 1, (0, 0)), (0, "done", None, 0, (0, 0))])
        self.check(end, (0, "done", 0, 1, ()), True, [(0, "done", 0, 1, ()), (0, "done", None, 0, ())])

    def test_words_do_not_fall_silent(self):
        self.check(tiny(), (0, "done", "taken", 1, (1, "lost")), True, [
            (0, "done", "taken", 1, ("lost", "lost")), (0, "done", "taken", 1, ("lost",))])

    def test_silent_stations_put_weak_bits(self):
        # If the hearer of the wrong body falls silent, nobody puts 0.
        found = moves(tiny(), (0, 0, 0, 1, (1,)), silent=True)
        self.assertIn((0, "done", "taken", 1, ()), found)
        self.assertNotIn((0, "done", "taken", 1, ("lost",)), found)

    def test_silent_by_default(self):
        self.assertEqual(moves(tiny(), (0, 0, 0, 1, ())), moves(tiny(), (0, 0, 0, 1, ()), silent=True))
        self.assertEqual(moves(standing=(0, 0, 0, 1, ()), end=tiny(), silent=False), [(0, "done", "taken", 1, ())])

    def test_lists_in_place_of_tuples(self):
        standing = [1, 0, 0, 2, [1, "lost"]]
        found = moves(tiny(), standing)
        self.assertEqual(set(found), set(moves(tiny(), (1, 0, 0, 2, (1, "lost")))))
        self.assertEqual(standing, [1, 0, 0, 2, [1, "lost"]])
        self.assertTrue(all(is_standing(tiny(), moved) for moved in found))

    def test_moves_lead_to_standings_in_their_written_form(self):
        for end in random_ends(31, 25, 4):
            for standing in standings(end, 2)[:60]:
                for silent in (True, False):
                    for moved in moves(end, standing, silent=silent):
                        self.assertTrue(is_standing(end, moved), (str(end), standing, moved))


class TestStandings(unittest.TestCase):
    def test_tiny(self):
        found = standings(tiny(), 0, silent=False)
        self.assertEqual(sorted(found, key=repr), [(0, "done", "taken", 1, ()), (0, 0, 0, 1, ())])
        found = standings(tiny(), 1, silent=False)
        self.assertEqual(set(found), {
            (1, 0, 0, 1, ()), (1, 0, 0, 2, ()), (0, 0, None, 0, (1,)), (0, 0, 0, 1, (1,)),
            (1, "done", "taken", 1, ()), (0, "again", "taken", 1, ()), (0, "done", None, 0, ("lost",)),
            (0, "done", "taken", 1, ("lost",)), (0, "again", None, 0, ("lost",)), (0, "again", "lost", 1, ("lost",))})
        self.assertEqual(len(found), 10)

    def test_each_once(self):
        for end in random_ends(37, 20, 4) + [standard_end()]:
            for wrong in (0, 1, 2):
                found = standings(end, wrong)
                self.assertIs(type(found), list)
                self.assertEqual(len(found), len(set(found)))
                for standing in found:
                    self.assertTrue(is_standing(end, standing))

    def test_closed_under_moves(self):
        for end in random_ends(41, 20, 3):
            for silent, hearers in product((True, False), (None, 1, 2)):
                found = standings(end, 2, silent=silent, hearers=hearers)
                self.assertLessEqual(set(starts(2, hearers=hearers)), set(found))
                for standing in found:
                    self.assertLessEqual(set(moves(end, standing, silent=silent)), set(found))

    def test_all_sendings_with_so_many_hearers(self):
        source = random.Random(43)
        for number in range(60):
            end = random_end(source, 3)
            for hearers, wrong in ((1, 0), (1, 1), (1, 2), (1, 3), (2, 0), (2, 1), (2, 2), (3, 1), (3, 0), (4, 0)):
                for silent in (True, False):
                    found = standings(end, wrong, silent=silent, hearers=hearers)
                    self.assertEqual(set(found), plain_standings(end, wrong, silent, hearers),
                                     (str(end), hearers, wrong, silent))

    def test_sendings_of_families(self):
        for end in (voting_end(2, needed=2), counted_end(2, hearer=1, sender=2, flag=1, gap=1)):
            for hearers, wrong in ((1, 1), (2, 1), (2, 2), (3, 1)):
                for silent in (True, False):
                    found = standings(end, wrong, silent=silent, hearers=hearers)
                    self.assertEqual(set(found), plain_standings(end, wrong, silent, hearers))

    def test_any_number_of_hearers(self):
        for end in random_ends(47, 20, 3):
            for wrong, silent in product((0, 1, 2), (True, False)):
                exact = [standings(end, wrong, silent=silent, hearers=hearers) for hearers in range(1, wrong + 2)]
                self.assertEqual(set(standings(end, wrong, silent=silent)),
                                 {standing for some in exact for standing in some})
                more = standings(end, wrong, silent=silent, hearers=19)
                self.assertEqual(set(more), set(exact[-1]))

    def test_arguments(self):
        found = standings(tiny(), 1)
        self.assertEqual(set(standings(hearers=None, silent=True, wrong=1, end=tiny())), set(found))
        self.assertNotEqual(set(standings(tiny(), 1, silent=False)), set(found))
        self.assertEqual(standings(tiny(), 1), found)
        self.assertIsNot(standings(tiny(), 1), found)

    def test_too_many(self):
        for silent in (True, False):
            with self.assertRaises(TooMany) as caught:
                standings(standard_end(), 3, silent=silent)
            self.assertEqual(caught.exception.limit, 5000)
        self.assertEqual(len(standings(standard_end(), 2)), 2124)

    def test_the_limit(self):
        for sizes, many in [((50, 99, 0), 4950), ((50, 99, 49), 4999), ((50, 99, 50), 5000), ((51, 98, 2), 5000)]:
            self.assertEqual(len(standings(rings(*sizes), 0, silent=False)), many)
        with self.assertRaises(TooMany) as caught:
            standings(rings(51, 98, 3), 0, silent=False)
        self.assertEqual(caught.exception.limit, 5000)


class TestIsStanding(unittest.TestCase):
    def yes(self, *standings_of_it, end=LONGER):
        for standing in standings_of_it:
            self.assertIs(is_standing(end, standing), True, standing)

    def no(self, *things, end=LONGER):
        for thing in things:
            self.assertIs(is_standing(end, thing), False, thing)

    def test_standings(self):
        self.yes((0, 0, 0, 1, ()), (4, 1, 3, 5, ()), (4, 1, 3, 1, ()), (0, "done", "taken", 1, ()),
                 (0, "again", "lost", 1, (0, 1, 1, 3)), (2, "silent", None, 0, (1, "taken")), (0, 0, None, 0, ()),
                 (3, "silent", None, 0, ("lost",)), (0, 1, 2, 1, (0, "lost", "lost", "taken")), (4, 1, None, 0, ()))

    def test_all_that_can_come_about(self):
        for end in random_ends(53, 10, 4):
            for wrong in (0, 1, 2, 3):
                self.yes(*standings(end, wrong), end=end)

    def test_left_and_hit_together(self):
        self.yes((4, 0, 0, 5, ()), (3, 0, 0, 4, (1,)), (2, 0, 0, 3, (1, 1)), (1, 0, 0, 2, (1, 1, 1)),
                 (0, 0, 0, 1, (1, 1, 1, 1)))
        self.no((5, 0, 0, 5, ()), (4, 0, 0, 4, (1,)), (3, 0, 0, 3, (1, 1)), (0, 0, 0, 1, (1, 1, 1, 1, 1)),
                (0, 0, 0, 1, ("lost",) * 5), (5, "done", "taken", 1, ()), (10 ** 39, 0, 0, 1, ()))

    def test_left(self):
        self.no((-1, 0, 0, 1, ()), (-1, 0, None, 0, ()), (True, 0, 0, 1, ()), (False, 0, 0, 1, ()), (None, 0, 0, 1, ()),
                ("0", 0, 0, 1, ()), ((), 0, 0, 1, ()), (-4, "done", "lost", 1, (1,) * 8))

    def test_sender(self):
        self.no((1, 2, 0, 1, ()), (1, -1, 0, 1, ()), (1, True, 0, 1, ()), (1, False, 0, 1, ()), (1, None, 0, 1, ()),
                (1, "taken", 0, 1, ()), (1, "lost", 0, 1, ()), (1, "", 0, 1, ()), (1, "Silent", 0, 1, ()),
                (1, (0,), 0, 1, ()), (1, ["silent"], 0, 1, ()), (1, {}, 0, 1, ()), (1, 10 ** 39, 0, 1, ()))

    def test_crowd(self):
        self.no((1, 0, 4, 1, ()), (1, 0, -1, 1, ()), (1, 0, True, 1, ()), (1, 0, False, 1, ()), (1, 0, "done", 1, ()),
                (1, 0, "again", 1, ()), (1, 0, "silent", 1, ()), (1, 0, "", 1, ()), (1, 0, (0,), 1, ()),
                (1, 0, [], 0, ()), (1, 0, "None", 0, ()))

    def test_many(self):
        self.yes((1, 0, 0, 1, ()), (1, 0, 0, 2, ()))
        self.no((1, 0, 0, 0, ()), (1, 0, 0, 3, ()), (1, 0, 0, -1, ()), (1, 0, 0, True, ()), (1, 0, None, False, ()),
                (1, 0, None, 1, ()), (1, 0, None, None, ()), (1, 0, "taken", 0, ()), (1, 0, "taken", 2, ()),
                (1, 0, "taken", True, ()), (1, 0, 0, "1", ()), (1, 0, None, -1, ()), (1, 0, 0, (1,), ()))

    def test_hit(self):
        self.yes((0, 0, None, 0, (0, 1, 2, 3)), (0, 0, None, 0, (3, "lost", "taken", "taken")))
        self.no((0, 0, None, 0, (1, 0)), (0, 0, None, 0, ("lost", 1)), (0, 0, None, 0, ("taken", "lost")),
                (0, 0, None, 0, (4,)), (0, 0, None, 0, (-1,)), (0, 0, None, 0, (True,)), (0, 0, None, 0, (0, True)),
                (0, 0, None, 0, (False,)), (0, 0, None, 0, ("done",)), (0, 0, None, 0, ("silent",)),
                (0, 0, None, 0, (None,)), (0, 0, None, 0, [1]), (0, 0, None, 0, []), (0, 0, None, 0, None),
                (0, 0, None, 0, "lost"), (0, 0, None, 0, ""), (0, 0, None, 0, ((1,),)), (0, 0, None, 0, {}),
                (0, 0, None, 0, 1), (0, 0, None, 0, (1, [2])))

    def test_parts(self):
        self.no((0, 0, 0, 1), (0, 0, 0, 1, (), ()), (), ((0, 0, 0, 1, ()),), [0, 0, 0, 1, ()], (0, 0, 0, 1, [()]),
                {0: (0, 0, 0, 1, ())}, "standing", None, True, 5)

    def test_rows_of_this_end(self):
        self.yes((0, 0, 1, 1, ()), end=tiny())
        self.no((0, 1, 1, 1, ()), (0, 0, 2, 1, ()), (0, 0, 1, 1, (2,)), end=tiny())
        self.yes((0, 20, 33, 1, (33,)), end=standard_end())
        self.no((0, 21, 33, 1, (33,)), (0, 20, 34, 1, ()), (0, 20, 33, 1, (34,)), end=standard_end())

    def test_odd_values(self):
        self.no(*ODD_VALUES)
        standing = (1, 0, 0, 2, (1,))
        for place, value in product(range(5), ODD_VALUES):
            thing = tuple([value if index == place else standing[index] for index in range(5)])
            fits = ((1, 2), (0, 1, "done", "again"), (0, 1, 2), (1, 2), ((), (1,), (1, "lost")))[place]
            if isinstance(value, bool) or value not in fits:
                self.no(thing)
        self.assertIs(is_standing(thing=standing, end=LONGER), True)


if __name__ == "__main__":
    unittest.main()
