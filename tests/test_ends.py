"""Rows, machines and ends: promises 4 and 5, with the conventions of promise 2."""

import unittest

from strongbit import ends
from strongbit.ends import End
from strongbit.errors import BadEnd

from samples import ODD_VALUES, TINY_HEARER, TINY_SENDER, pad, random_ends, tiny

LOOP = (1, 0, 0)


class TestEnd(unittest.TestCase):
    def test_lists_and_tuples_make_the_same_end(self):
        for hearer in (list(TINY_HEARER), tuple(TINY_HEARER)):
            for sender in (list(TINY_SENDER), tuple(TINY_SENDER)):
                end = End(hearer, sender)
                self.assertEqual(end, tiny())
                self.assertEqual(end.hearer, tuple(TINY_HEARER))
                self.assertEqual(end.sender, tuple(TINY_SENDER))
                self.assertIsInstance(end.hearer, tuple)
                self.assertIsInstance(end.sender, tuple)

    def test_arguments_by_name(self):
        end = End(sender=TINY_SENDER, hearer=TINY_HEARER)
        self.assertEqual(end.hearer, tuple(TINY_HEARER))
        self.assertEqual(end.sender, tuple(TINY_SENDER))

    def test_later_changes_of_the_lists_have_no_effect(self):
        hearer, sender = list(TINY_HEARER), list(TINY_SENDER)
        end = End(hearer, sender)
        hearer[0] = (0, 0, 0)
        hearer.append((0, 0, 0))
        sender.clear()
        self.assertEqual(end, tiny())
        self.assertEqual(end.hearer, tuple(TINY_HEARER))
        self.assertEqual(end.sender, tuple(TINY_SENDER))
        self.assertEqual(len(end), 3)
        self.assertEqual(str(end), str(tiny()))
        self.assertEqual(list(end), list(tiny()))
        self.assertNotIn((0, 0, 0), end)

    def test_the_lists_are_not_changed(self):
        hearer, sender = list(TINY_HEARER), list(TINY_SENDER)
        End(hearer, sender)
        self.assertEqual((hearer, sender), (TINY_HEARER, TINY_SENDER))

    def test_equal_exactly_with_equal_machines(self):
        self.assertEqual(tiny(), tiny())
        self.assertFalse(tiny() != tiny())
        self.assertNotEqual(tiny(), End([(0, "lost", "taken"), (0, "lost", "lost")], TINY_SENDER))
        self.assertNotEqual(tiny(), End([(1, "lost", "taken"), (0, "lost", 1)], TINY_SENDER))
        self.assertNotEqual(tiny(), End(TINY_HEARER, [(1, "done", "again")]))
        self.assertNotEqual(tiny(), End(TINY_HEARER + [LOOP], TINY_SENDER))
        self.assertNotEqual(tiny(), End(TINY_HEARER, TINY_SENDER + [LOOP]))
        self.assertNotEqual(End([LOOP, LOOP, LOOP], [LOOP]), End([LOOP, LOOP], [LOOP, LOOP]))

    def test_equal_to_nothing_of_another_class(self):
        for value in ODD_VALUES + [str(tiny()), (tiny().hearer, tiny().sender), list(tiny())]:
            self.assertFalse(tiny() == value)
            self.assertTrue(tiny() != value)

    def test_len_counts_all_rows(self):
        self.assertEqual(len(tiny()), 3)
        self.assertEqual(len(End([LOOP] * 2, [LOOP] * 100)), 102)
        self.assertEqual(len(End([LOOP] * 100, [LOOP] * 3)), 103)

    def test_repr(self):
        self.assertEqual(repr(tiny()), "End(2 hearer rows, 1 sender rows)")
        self.assertEqual(repr(End([LOOP] * 12, [LOOP] * 100)), "End(12 hearer rows, 100 sender rows)")

    def test_iterating(self):
        end = End(TINY_HEARER, [(1, 1, "done"), (0, "again", 0)])
        rows = [("hearer", 0, (1, "lost", "taken")), ("hearer", 1, (0, "lost", "lost")),
                ("sender", 0, (1, 1, "done")), ("sender", 1, (0, "again", 0))]
        self.assertEqual(list(end), rows)
        self.assertEqual(list(end), rows)
        self.assertEqual([(first, second) for first in end for second in end],
                         [(first, second) for first in rows for second in rows])

    def test_rows_are_in_the_end(self):
        self.assertIn((1, "lost", "taken"), tiny())
        self.assertIn((0, "lost", "lost"), tiny())
        self.assertIn((1, "again", "done"), tiny())
        self.assertNotIn((0, "again", "done"), tiny())
        self.assertNotIn((1, "done", "again"), tiny())
        self.assertNotIn([1, "lost", "taken"], tiny())
        self.assertNotIn(("hearer", 0, (1, "lost", "taken")), tiny())
        self.assertNotIn((1, "lost"), tiny())
        self.assertNotIn((1, "lost", "taken", "taken"), tiny())

    def test_a_row_with_true_or_false_is_not_in_the_end(self):
        end = End([(1, 0, 1), (0, 1, 0)], [(1, "done", 0)])
        self.assertIn((1, 0, 1), end)
        self.assertIn((0, 1, 0), end)
        self.assertIn((1, "done", 0), end)
        for row in ((True, 0, 1), (1, False, 1), (1, 0, True), (False, 1, 0), (0, True, 0), (0, 1, False),
                    (True, "done", 0), (1, "done", False), (True, False, True)):
            self.assertNotIn(row, end)

    def test_any_value_may_be_looked_for(self):
        end = End([LOOP, LOOP], [LOOP])
        for value in ODD_VALUES:
            self.assertIs(value in end, False)
            self.assertIs((1, value, 0) in end, value == 0 and value is not False)

    def test_members_are_defined_in_the_class_itself(self):
        for name in ("MOST", "hearer", "sender", "from_text", "__init__", "__eq__", "__len__", "__repr__", "__str__",
                     "__iter__", "__contains__"):
            self.assertIn(name, vars(End))
        self.assertIsInstance(vars(End)["hearer"], property)
        self.assertIsInstance(vars(End)["sender"], property)
        self.assertIsInstance(vars(End)["from_text"], classmethod)
        self.assertEqual(End.__module__, ends.__name__)

    def test_most(self):
        self.assertEqual(End.MOST, 100)
        self.assertEqual(tiny().MOST, 100)

    def test_machines_cannot_be_replaced(self):
        for name in ("hearer", "sender"):
            with self.assertRaises(AttributeError):
                setattr(tiny(), name, ())


class TestBadEnd(unittest.TestCase):
    def check(self, hearer, sender, part, row):
        with self.assertRaises(BadEnd) as caught:
            End(hearer, sender)
        self.assertEqual((caught.exception.part, caught.exception.row), (part, row))

    def test_numbers_of_rows(self):
        for many in (2, 3, 99, 100):
            self.assertEqual(len(End([LOOP] * many, [LOOP]).hearer), many)
        for many in (0, 1, 101, 102, 4000):
            self.check([LOOP] * many, [LOOP], "hearer", None)
            self.check((LOOP,) * many, (LOOP,), "hearer", None)
        for many in (1, 2, 99, 100):
            self.assertEqual(len(End([LOOP] * 2, [LOOP] * many).sender), many)
        for many in (0, 101, 102, 4000):
            self.check([LOOP] * 2, [LOOP] * many, "sender", None)
            self.check((LOOP,) * 2, (LOOP,) * many, "sender", None)

    def test_values_that_are_no_lists_or_tuples(self):
        for value in (None, True, False, 0, 2, 10 ** 39, "", "ab", TINY_HEARER[0][1], {}, {0: LOOP, 1: LOOP},
                      {LOOP: LOOP, (0, 0, 0): LOOP}):
            self.check(value, TINY_SENDER, "hearer", None)
            self.check(TINY_HEARER, value, "sender", None)

    def test_a_wrong_number_of_items_is_told_ahead_of_wrong_items(self):
        self.check([None], TINY_SENDER, "hearer", None)
        self.check([None] * 101, TINY_SENDER, "hearer", None)
        self.check(TINY_HEARER, [None] * 101, "sender", None)

    def test_any_values_in_place_of_machines(self):
        for value in ODD_VALUES:
            right = isinstance(value, (list, tuple)) and 2 <= len(value) <= 100
            self.check(value, TINY_SENDER, "hearer", 0 if right else None)
            right = isinstance(value, (list, tuple)) and 1 <= len(value) <= 100
            self.check(TINY_HEARER, value, "sender", 0 if right else None)

    def test_any_values_in_place_of_rows(self):
        for value in ODD_VALUES:
            self.check([value, LOOP, LOOP], TINY_SENDER, "hearer", 0)
            self.check([LOOP, LOOP, value], TINY_SENDER, "hearer", 2)
            self.check(TINY_HEARER, [LOOP, value], "sender", 1)

    def test_any_values_in_place_of_the_parts_of_rows(self):
        for value in ODD_VALUES:
            number = isinstance(value, int) and not isinstance(value, bool)
            if not (number and value in (0, 1)):
                self.check([LOOP, (value, 0, 0)], TINY_SENDER, "hearer", 1)
                self.check(TINY_HEARER, [(value, 0, 0)], "sender", 0)
            if not (number and value in (0, 1)) and value not in ("taken", "lost"):
                self.check([(1, value, 0), LOOP], TINY_SENDER, "hearer", 0)
                self.check([(1, 0, value), LOOP], TINY_SENDER, "hearer", 0)
            if not (number and value == 0) and value not in ("done", "again"):
                self.check(TINY_HEARER, [(1, value, 0)], "sender", 0)
                self.check(TINY_HEARER, [(1, 0, value)], "sender", 0)

    def test_true_and_false_are_no_numbers(self):
        for row in ((True, 0, 0), (False, 0, 0), (1, True, 0), (1, 0, True), (1, False, 0), (1, 0, False)):
            self.check([LOOP, LOOP, row], TINY_SENDER, "hearer", 2)
            self.check(TINY_HEARER, [LOOP, row, LOOP], "sender", 1)

    def test_rows_that_are_lists(self):
        self.check([LOOP, list(LOOP)], TINY_SENDER, "hearer", 1)
        self.check(TINY_HEARER, [list(LOOP)], "sender", 0)

    def test_rows_with_two_or_four_parts(self):
        for row in ((), (1,), (1, 0), (1, 0, 0, 0)):
            self.check([LOOP, row], TINY_SENDER, "hearer", 1)
            self.check(TINY_HEARER, [LOOP, row], "sender", 1)

    def test_indexes_that_are_not_there(self):
        End([(1, 1, 1), (1, 0, 0)], [(1, 2, 0), LOOP, LOOP])
        for index in (-1, 2, 3, 100, 10 ** 39, -10 ** 39):
            self.check([LOOP, (1, index, 0)], [LOOP] * 4, "hearer", 1)
            self.check([LOOP, (1, 0, index)], [LOOP] * 4, "hearer", 1)
            self.check([LOOP] * 4, [LOOP, (1, index, 0)], "sender", 1)
            self.check([LOOP] * 4, [LOOP, (1, 0, index)], "sender", 1)
        End(pad([(1, 99, 99)], 100, LOOP), pad([(1, 99, 99)], 100, LOOP))
        self.check(pad([(1, 100, 99)], 100, LOOP), TINY_SENDER, "hearer", 0)

    def test_words_of_the_other_machine(self):
        for word in ("done", "again", "silent", "Taken", "lost ", "", "0"):
            self.check([LOOP, (1, word, 0)], TINY_SENDER, "hearer", 1)
            self.check([LOOP, (1, 0, word)], TINY_SENDER, "hearer", 1)
        for word in ("taken", "lost", "silent", "Done", " again", "", "0"):
            self.check(TINY_HEARER, [LOOP, (1, word, 0)], "sender", 1)
            self.check(TINY_HEARER, [LOOP, (1, 0, word)], "sender", 1)

    def test_the_least_wrong_row_is_told(self):
        self.check([LOOP, (1, 5, 0), (2, 0, 0), LOOP], TINY_SENDER, "hearer", 1)
        self.check([LOOP, LOOP, (2, 0, 0), (1, 5, 0)], TINY_SENDER, "hearer", 2)
        self.check(TINY_HEARER, [LOOP, (1, "lost", 0), None], "sender", 1)

    def test_order_of_errors(self):
        body = [LOOP, (1, "taken", "taken")]
        self.check(None, None, "hearer", None)
        self.check([LOOP, None], None, "hearer", 1)
        self.check(body, None, "sender", None)
        self.check(body, [], "sender", None)
        self.check(body, [LOOP, (1, "taken", 0)], "sender", 1)
        self.check(body + [None], TINY_SENDER, "hearer", 2)
        self.check(body, TINY_SENDER, "body", None)

    def test_bits_from_row_1_to_taken_on_short_ways(self):
        for row in ((1, "taken", "lost"), (0, "lost", "taken"), (1, "taken", "taken"), (1, 1, "taken"),
                    (1, "taken", 0)):
            self.check([LOOP, row], TINY_SENDER, "body", None)
        self.check([(1, "lost", "taken"), (1, 0, "lost")], TINY_SENDER, "body", None)
        self.check([(1, "lost", "taken"), (1, 1, 0)], TINY_SENDER, "body", None)

    def test_bits_from_row_1_to_taken_on_long_ways(self):
        for follows in (lambda index: (1, "lost", index + 1), lambda index: (0, index + 1, "lost"),
                        lambda index: (0, index, index + 1)):
            chain = [LOOP] + [follows(index) for index in range(1, 99)]
            self.check(chain + [(1, "lost", "taken")], TINY_SENDER, "body", None)
            self.check(chain + [(1, "taken", 1)], TINY_SENDER, "body", None)
            self.assertEqual(len(End(chain + [(1, "lost", 1)], TINY_SENDER)), 101)

    def test_bits_from_row_1_to_taken_by_way_of_row_0(self):
        chain = [(1, 2, "lost"), (1, "lost", 3), (1, "lost", "taken"), (1, 3, 0)]
        self.check(chain, TINY_SENDER, "body", None)
        chain[3] = (1, 3, 1)
        End(chain, TINY_SENDER)

    def test_taken_in_rows_that_only_row_0_leads_to(self):
        End([(1, 2, 1), (1, 1, 3), (1, "taken", "taken"), (1, "lost", 3)], TINY_SENDER)

    def test_taken_in_rows_that_nothing_leads_to(self):
        End([LOOP, (1, 1, "lost"), (1, "taken", 0)], TINY_SENDER)

    def test_any_row_of_a_made_end_is_a_row(self):
        for end in random_ends(1, 200, 6):
            for part, index, row in end:
                self.assertEqual((end.hearer if part == "hearer" else end.sender)[index], row)
                self.assertIn(row, end)


if __name__ == "__main__":
    unittest.main()
