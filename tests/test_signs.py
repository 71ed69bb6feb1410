"""Promises 2, 4 and 6: signs, the usual book, the end names, figures."""

import unittest

from framepost import signs
from framepost.signs import END_NAMES, ROW_END, USUAL, figures_of, is_plain, is_small

SMALL = "abcdefghijklmnopqrstuvwxyz"
# The neighbours of what is plain, and letters and figures of other writings than ASCII.
FOREIGN = "\0\t\r\x0b\x0c\x1f\x7f\x80\x85\xa0\xaa\xb5\xdf\xe9\u0131\u017f\u0430\u0661\u2028\uff41\U0001f600"


class Book(unittest.TestCase):
    def test_usual_is_the_tuple_of_the_document(self):
        self.assertEqual(USUAL, (8, 12, 40, 12, 400, 12, 6))
        self.assertIs(type(USUAL), tuple)
        self.assertEqual({type(number) for number in USUAL}, {int})

    def test_end_names_are_the_tuple_of_the_document(self):
        self.assertEqual(END_NAMES, ("length", "pieces", "parts", "rest"))
        self.assertIs(type(END_NAMES), tuple)

    def test_the_row_end_has_two_signs(self):
        self.assertEqual(ROW_END, ";\n")

    def test_nothing_that_can_be_changed_is_kept_at_the_top(self):
        kept = [name for name, value in vars(signs).items()
                if isinstance(value, (list, dict, set)) and not name.startswith("__")]
        self.assertEqual(kept, [])


class Small(unittest.TestCase):
    def test_each_ascii_sign(self):
        for code in range(128):
            with self.subTest(code=code):
                self.assertIs(is_small(chr(code)), chr(code) in SMALL)

    def test_foreign_signs_are_not_small(self):
        for sign in FOREIGN:
            self.assertIs(is_small(sign), False, repr(sign))

    def test_texts_of_no_sign_or_several_are_not_small(self):
        for text in ("", "ab", "aa", "zz", "a ", " a", "a\n", "mno"):
            self.assertIs(is_small(text), False, repr(text))


class Plain(unittest.TestCase):
    def test_each_ascii_sign(self):
        for code in range(128):
            with self.subTest(code=code):
                self.assertIs(is_plain(chr(code)), code == 10 or 32 <= code <= 126)

    def test_the_edges(self):
        for sign in (" ", "~", "\n", "%", ";", "\\", "0", "A", "a"):
            self.assertIs(is_plain(sign), True, repr(sign))
        for sign in ("\t", "\r", "\x1f", "\x7f"):
            self.assertIs(is_plain(sign), False, repr(sign))

    def test_foreign_signs_are_not_plain(self):
        for sign in FOREIGN:
            self.assertIs(is_plain(sign), False, repr(sign))

    def test_texts_of_no_sign_or_several_are_not_plain(self):
        for text in ("", "ab", "  ", "\n\n", ";\n", "a~", "~~", "   "):
            self.assertIs(is_plain(text), False, repr(text))


class Figures(unittest.TestCase):
    def test_the_edges_to_the_base_ten(self):
        told = [(0, "0"), (9, "9"), (10, "10"), (15, "15"), (16, "16"), (99, "99"), (100, "100"), (109, "109"),
                (1000, "1000"), (30000, "30000")]
        for number, text in told:
            self.assertEqual(figures_of(number, 10), text)

    def test_the_edges_to_the_base_sixteen(self):
        told = [(0, "0"), (9, "9"), (10, "a"), (11, "b"), (12, "c"), (13, "d"), (14, "e"), (15, "f"), (16, "10"),
                (17, "11"), (255, "ff"), (256, "100"), (400, "190"), (1000, "3e8"), (4095, "fff"), (4096, "1000")]
        for number, text in told:
            self.assertEqual(figures_of(number, 16), text)

    def test_all_numbers_of_the_books(self):
        for number in range(2000):
            self.assertEqual(figures_of(number, 10), str(number))
            self.assertEqual(figures_of(number, 16), f"{number:x}")

    def test_great_numbers(self):
        for power in (20, 63, 64, 65, 1000):
            for number in (2 ** power - 1, 2 ** power, 2 ** power + 1, 10 ** power - 1, 10 ** power):
                self.assertEqual(figures_of(number, 10), str(number))
                self.assertEqual(figures_of(number, 16), f"{number:x}")

    def test_numbers_of_more_figures_than_python_itself_writes(self):
        self.assertEqual(figures_of(10 ** 6000, 10), "1" + "0" * 6000)
        self.assertEqual(figures_of(16 ** 6000, 16), "1" + "0" * 6000)


if __name__ == "__main__":
    unittest.main()
