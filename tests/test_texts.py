"""The text of an end: promise 27."""

import unittest

from strongbit.ends import End
from strongbit.errors import BadEnd, BadText

from samples import ODD_VALUES, TINY_TEXT, random_ends, tiny

LOOP = (1, 0, 0)


class TestText(unittest.TestCase):
    def test_the_example(self):
        self.assertEqual(str(tiny()), TINY_TEXT)
        self.assertEqual(End.from_text(TINY_TEXT), tiny())
        self.assertEqual(End.from_text(text=TINY_TEXT), tiny())

    def test_several_rows_and_all_words(self):
        end = End([(1, 2, "taken"), (0, "lost", 1), (0, 0, 0)], [(1, 1, "done"), (0, "again", 0)])
        text = "1 2 taken, 0 lost 1, 0 0 0 | 1 1 done, 0 again 0"
        self.assertEqual(str(end), text)
        self.assertEqual(End.from_text(text), end)

    def test_the_text_makes_an_equal_end_again(self):
        large = End([(1, 99, 10)] * 100, [(0, 0, 99)] * 100)
        for end in random_ends(2, 300, 12) + [large]:
            again = End.from_text(str(end))
            self.assertEqual(again, end)
            self.assertEqual(str(again), str(end))
            self.assertIsInstance(again, End)


class TestBadText(unittest.TestCase):
    def refused(self, text):
        with self.assertRaises(BadText) as caught:
            End.from_text(text)
        self.assertEqual(caught.exception.text, text)

    def bad_end(self, text, part, row):
        with self.assertRaises(BadEnd) as caught:
            End.from_text(text)
        self.assertEqual((caught.exception.part, caught.exception.row), (part, row))

    def test_values_that_are_not_texts(self):
        for value in ODD_VALUES:
            self.refused(value)
        self.refused([TINY_TEXT])
        self.refused((tiny().hearer, tiny().sender))
        self.refused(str(tiny()).encode())

    def test_each_character_left_out(self):
        for at in range(len(TINY_TEXT)):
            self.refused(TINY_TEXT[:at] + TINY_TEXT[at + 1:])

    def test_further_characters(self):
        for character in " ,|\n\ta-+_.":
            for at in range(len(TINY_TEXT) + 1):
                with self.subTest(character=character, at=at):
                    self.refused(TINY_TEXT[:at] + character + TINY_TEXT[at:])

    def test_further_digits_beside_words_and_marks(self):
        self.refused("11 lost taken, 0 lost lost | 1 again done")
        self.refused("1 lost0 taken, 0 lost lost | 1 again done")
        self.refused("1 0lost taken, 0 lost lost | 1 again done")
        self.refused("1 lost taken, 0 lost lost | 1 again done 0")

    def test_further_and_missing_parts(self):
        self.refused("1 lost, 0 lost lost | 1 again done")
        self.refused("1 lost taken lost, 0 lost lost | 1 again done")
        self.refused("1 lost taken, , 0 lost lost | 1 again done")
        self.refused(", 1 lost taken, 0 lost lost | 1 again done")
        self.refused("1 lost taken, 0 lost lost |  | 1 again done")
        self.refused("1 lost taken, 0 lost lost | 1 again done | 1 again done")
        self.refused("1 lost taken, 0 lost lost | 1 again done | ")
        self.refused("1 lost taken, 0 lost lost, 1 again done")
        self.refused(" | 1 again done")
        self.refused("1 lost taken, 0 lost lost | ")
        self.refused(" | ")
        self.refused("|")

    def test_put_bits(self):
        for put in ("2", "-1", "00", "01", "10", "x", "", "lost", "1.0", "True"):
            self.refused(f"{put} lost taken, 0 lost lost | 1 again done")
            self.refused(f"1 lost taken, 0 lost lost | {put} again done")

    def test_what_follows_is_a_number_or_a_word(self):
        for follower in ("00", "01", "007", "-0", "-1", "+1", "1_0", "1.", "0x1", "1e1", "silent", "Taken", "taken's",
                         "LOST", "None", "True", "right", "1\n", "\n1"):
            self.refused(f"1 {follower} taken, 0 lost lost | 1 again done")
            self.refused(f"1 lost {follower}, 0 lost lost | 1 again done")
            self.refused(f"1 lost taken, 0 lost lost | 1 {follower} done")
            self.refused(f"1 lost taken, 0 lost lost | 1 again {follower}")

    def test_digits_of_other_scripts(self):
        for digit in ("\u0661", "\u00b2", "\uff11"):
            self.refused(f"1 {digit} taken, 0 lost lost | 1 again done")
            self.refused(f"{digit} lost taken, 0 lost lost | 1 again done")

    def test_numbers_of_nine_and_of_ten_digits(self):
        self.bad_end("1 123456789 taken, 0 lost lost | 1 again done", "hearer", 0)
        self.bad_end("1 lost taken, 0 999999999 lost | 1 again done", "hearer", 1)
        self.bad_end("1 lost taken, 0 lost lost | 1 again 100000000", "sender", 0)
        self.refused("1 1234567890 taken, 0 lost lost | 1 again done")
        self.refused("1 lost taken, 0 1000000000 lost | 1 again done")
        self.refused("1 lost taken, 0 lost lost | 1 again 1000000000")
        self.refused("1 lost taken, 0 lost lost | 1 again 0000000000")

    def test_rows_that_are_not_there(self):
        self.bad_end("1 2 taken, 0 lost lost | 1 again done", "hearer", 0)
        self.bad_end("1 lost taken, 0 lost 2 | 1 again done", "hearer", 1)
        self.bad_end("1 lost taken, 0 lost lost | 1 1 done", "sender", 0)

    def test_words_of_the_other_machine(self):
        self.bad_end("1 done taken, 0 lost lost | 1 again done", "hearer", 0)
        self.bad_end("1 lost taken, 0 lost again | 1 again done", "hearer", 1)
        self.bad_end("1 lost taken, 0 lost lost | 1 taken done", "sender", 0)
        self.bad_end("1 lost taken, 0 lost lost | 1 again lost", "sender", 0)

    def test_numbers_of_rows(self):
        row = "1 0 0"
        self.bad_end(f"{row} | {row}", "hearer", None)
        self.bad_end(f"{', '.join([row] * 101)} | {row}", "hearer", None)
        self.bad_end(f"{row}, {row} | {', '.join([row] * 101)}", "sender", None)
        hundred = ", ".join([row] * 100)
        self.assertEqual(End.from_text(f"{hundred} | {hundred}"), End([LOOP] * 100, [LOOP] * 100))

    def test_bits_from_row_1_to_taken(self):
        self.bad_end("1 lost taken, 0 0 lost | 1 again done", "body", None)

    def test_the_text_is_looked_at_ahead_of_the_end(self):
        self.refused("1 5 taken, 0 lost lost | 1 again 01")
        self.refused("1 lost taken | 2 again done")


if __name__ == "__main__":
    unittest.main()
