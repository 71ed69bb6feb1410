"""Promises 2, 11, 12 and 13: machines for the parts of a row."""

import itertools
import unittest

from framepost.marks import Exact, Name, Number, RowEnd, Value, Word, number_in
from framepost.signs import END_NAMES
from helper import PLAIN, SMALL, beginnings_of, fed_on, look_all_over, look_along, look_at, tails_of

ENDS_OF_PARTS = ("length", "pieces", "parts")


class Machines(unittest.TestCase):
    def good(self, make, text, told):
        """That a text is good, its ending taken in sign by sign, and told."""
        machine = make()
        for sign in text:
            self.assertIs(machine.fed(sign), True, repr((text, sign)))
        self.assertIs(machine.good(), True, repr(text))
        self.assertEqual(machine.awaited(), "")
        self.assertEqual(machine.told(), told)
        self.assertIs(type(machine.told()), type(told))

    def stops(self, make, text, sign):
        """That this sign may not come behind the text, and leaves no trace."""
        machine = fed_on(make(), text)
        before = (machine.good(), machine.awaited(), machine.told())
        for number in range(3):
            self.assertIs(machine.fed(sign), False, repr((text, sign)))
            self.assertEqual((machine.good(), machine.awaited(), machine.told()), before)

    def unready(self, make, text):
        """That a text is not good, and what is awaited makes it so."""
        machine = fed_on(make(), text)
        self.assertIs(machine.good(), False, repr(text))
        self.assertNotEqual(machine.awaited(), "")
        self.assertIs(fed_on(machine, machine.awaited()).good(), True)
        self.assertEqual(machine.awaited(), "")


class ExactTexts(Machines):
    def test_each_place_of_some_texts(self):
        for text in ("yes", ": ", "a", "aab", "-;\n", "\n\n", ""):
            begins = beginnings_of([text]).__contains__
            look_along(self, lambda: Exact(text), text, PLAIN, begins)
            self.good(lambda: Exact(text), text, text)

    def test_the_row_end(self):
        look_along(self, RowEnd, ";\n", PLAIN, beginnings_of([";\n"]).__contains__)
        self.good(RowEnd, ";\n", ";\n")
        self.assertIsInstance(RowEnd(), Exact)

    def test_awaited_is_what_is_missing(self):
        self.assertEqual([fed_on(Exact("yes"), "yes"[:at]).awaited() for at in range(4)], ["yes", "es", "s", ""])
        self.assertEqual([fed_on(RowEnd(), ";\n"[:at]).awaited() for at in range(3)], [";\n", "\n", ""])


class Numbers(Machines):
    def writings(self, base, most):
        return [str(number) if base == 10 else f"{number:x}" for number in range(most + 1)]

    def test_all_places_of_all_small_bounds(self):
        signs = "0123456789abcdefABFg;: \n+-."
        for base in (10, 16):
            for most in (0, 1, 2, 9, 10, 11, 15, 16, 17, 19, 20, 99, 100, 101, 160, 255, 256, 400):
                writings = self.writings(base, most)
                begins = beginnings_of(writings).__contains__
                seen = look_all_over(self, lambda: Number(base, most), signs, begins, 4)
                self.assertEqual(set(seen), set(writings) | {""})

    def test_every_number_is_told(self):
        for base in (10, 16):
            for number, text in enumerate(self.writings(base, 1000)):
                for most in (number, number + 1, 1000):
                    self.good(lambda: Number(base, most), text, number)

    def test_the_greatest_number_and_one_above_it(self):
        for base in (10, 16):
            for most in (9, 15, 16, 99, 255, 400, 999, 1000, 4096, 12345):
                texts = self.writings(base, most + 1)
                self.good(lambda: Number(base, most), texts[-2], most)
                self.stops(lambda: Number(base, most), texts[-1][:-1], texts[-1][-1])

    def test_nothing_comes_behind_a_nought(self):
        for base in (10, 16):
            for most in (0, 9, 400):
                for sign in PLAIN:
                    self.stops(lambda: Number(base, most), "0", sign)

    def test_the_greatest_number_nought(self):
        for base in (10, 16):
            self.good(lambda: Number(base, 0), "0", 0)
            for sign in PLAIN.replace("0", ""):
                self.stops(lambda: Number(base, 0), "", sign)

    def test_figures_of_the_base_alone(self):
        for sign in PLAIN:
            if sign not in "0123456789":
                self.stops(lambda: Number(10, 1000), "", sign)
                self.stops(lambda: Number(10, 1000), "1", sign)
            if sign not in "0123456789abcdef":
                self.stops(lambda: Number(16, 1000), "", sign)
                self.stops(lambda: Number(16, 1000), "1", sign)

    def test_no_figure_is_awaited_as_one(self):
        for base in (10, 16):
            self.unready(lambda: Number(base, 0), "")
            self.unready(lambda: Number(base, 7), "")


class NumbersInTexts(unittest.TestCase):
    def test_writings_of_numbers(self):
        for number in range(401):
            self.assertEqual(number_in(str(number), 10, 400), number)
            self.assertEqual(number_in(f"{number:x}", 16, 400), number)

    def test_other_texts(self):
        for text in ("", "00", "01", "401", "4000", "-1", "+1", "1 ", " 1", "1\n", "a", "x", "1,0"):
            self.assertIsNone(number_in(text, 10, 400), text)
        for text in ("", "00", "0a", "191", "1000", "A", "g", "1 "):
            self.assertIsNone(number_in(text, 16, 400), text)
        self.assertEqual((number_in("0", 10, 0), number_in("1", 10, 0)), (0, None))


class Words(Machines):
    def begins(self, most):
        return lambda text: 1 <= len(text) <= most and all(sign in SMALL for sign in text)

    def test_all_places(self):
        for most in (1, 2, 3):
            look_all_over(self, lambda: Word(most), "azmAZ1 ;:\n-", self.begins(most), 4)

    def test_each_sign_at_the_first_an_inner_and_the_last_place(self):
        for text in ("", "a", "abcdefg", "abcdefgh"):
            look_at(self, lambda: Word(8), text, PLAIN, self.begins(8))

    def test_lengths(self):
        for most in (1, 2, 8, 1000):
            self.unready(lambda: Word(most), "")
            for size in {1, most}:
                self.good(lambda: Word(most), "z" * size, "z" * size)
            self.stops(lambda: Word(most), "z" * most, "z")

    def test_an_end_name_may_be_a_word(self):
        for name in END_NAMES:
            self.good(lambda: Word(8), name, name)

    def test_no_length_at_all(self):
        for sign in PLAIN:
            self.stops(lambda: Word(0), "", sign)
        self.assertIs(Word(0).good(), False)


class Values(Machines):
    def is_good(self, text, most):
        return (1 <= len(text) <= most and text[0] != " " and text[-1] != " "
                and ";" not in text and "\n" not in text)

    def begins(self, most):
        return lambda text: any(self.is_good(text + tail, most) for tail in ("", "x"))

    def test_all_places(self):
        for most in (1, 2, 3, 4, 5):
            look_all_over(self, lambda: Value(most), "a :;\n~", self.begins(most), 6)

    def test_each_sign_at_each_sort_of_place(self):
        for text in ("", "a", "a ", "a  b", "abc", "abcd", "abc ", "abcde"):
            look_at(self, lambda: Value(6), text, PLAIN, self.begins(6))
        look_at(self, lambda: Value(6), "abcdef", PLAIN, self.begins(6))

    def test_blanks(self):
        self.stops(lambda: Value(5), "", " ")
        self.good(lambda: Value(5), "a   b", "a   b")
        self.stops(lambda: Value(5), "a   ", " ")
        self.stops(lambda: Value(5), "abcd", " ")
        self.unready(lambda: Value(5), "a   ")
        self.unready(lambda: Value(5), "a ")
        self.stops(lambda: Value(2), "a", " ")
        self.stops(lambda: Value(1), "", " ")

    def test_the_semicolon_and_the_line_feed(self):
        for text in ("", "a", "a ", "ab"):
            for sign in ";\n":
                self.stops(lambda: Value(40), text, sign)

    def test_lengths(self):
        for most in (1, 2, 40, 1000):
            self.unready(lambda: Value(most), "")
            for size in {1, most}:
                self.good(lambda: Value(most), "~" * size, "~" * size)
            self.stops(lambda: Value(most), "v" * most, "v")
            self.stops(lambda: Value(most), "v" * most, " ")

    def test_no_length_at_all(self):
        for sign in PLAIN:
            self.stops(lambda: Value(0), "", sign)


class Names(Machines):
    TAILS = tails_of(END_NAMES) + ["a", "z"]

    def is_good(self, text, most, room, ends):
        if text in ends:
            return True
        return room > 0 and 1 <= len(text) <= most and all(sign in SMALL for sign in text) and text not in END_NAMES

    def begins(self, most, room, ends):
        return lambda text: any(self.is_good(text + tail, most, room, ends) for tail in self.TAILS)

    def some_ends(self):
        return [ends for size in range(5) for ends in itertools.combinations(END_NAMES, size)]

    def test_along_the_end_names_and_beyond_them(self):
        for most in (1, 3, 4, 5, 6, 7, 12):
            for room in (0, 1, 12):
                for ends in self.some_ends():
                    begins = self.begins(most, room, ends)
                    for text in END_NAMES + ("resta", "partial", "lengthsa", "zzzzzzzzzzzz"):
                        while text and not begins(text):
                            text = text[:-1]
                        if text or room or ends:
                            look_along(self, lambda: Name(most, room, ends), text, "aelnst;: R\n", begins)

    def test_all_places_of_short_names(self):
        for most in (1, 2, 4, 5):
            for room in (0, 1):
                for ends in ((), ("rest",), ENDS_OF_PARTS):
                    if room or ends:
                        begins = self.begins(most, room, ends)
                        look_all_over(self, lambda: Name(most, room, ends), "rest:", begins, 6)

    def test_each_sign_at_some_places(self):
        for text in ("", "r", "res", "rest", "to", "length"):
            look_at(self, lambda: Name(12, 1, END_NAMES), text, PLAIN, self.begins(12, 1, END_NAMES))
            look_at(self, lambda: Name(12, 1, ENDS_OF_PARTS), text, PLAIN, self.begins(12, 1, ENDS_OF_PARTS))
        for text in ("", "r", "res", "rest"):
            look_at(self, lambda: Name(12, 0, ("rest",)), text, PLAIN, self.begins(12, 0, ("rest",)))

    def test_the_example_of_the_document(self):
        for ends in (ENDS_OF_PARTS, ("length",), ()):
            self.stops(lambda: Name(4, 1, ends), "res", "t")
            for sign in SMALL.replace("t", ""):
                self.good(lambda: Name(4, 1, ends), "res" + sign, "res" + sign)
        self.good(lambda: Name(4, 1, END_NAMES), "rest", "rest")

    def test_an_end_name_that_may_not_stand_ahead_of_the_greatest_length(self):
        for name in END_NAMES:
            others = tuple(other for other in END_NAMES if other != name)
            for ends in (others, ()):
                self.unready(lambda: Name(len(name) + 1, 1, ends), name)
                self.good(lambda: Name(len(name) + 1, 1, ends), name + "x", name + "x")
                self.stops(lambda: Name(len(name), 1, ends), name[:-1], name[-1])
                self.good(lambda: Name(len(name), 1, ends), name[:-1], name[:-1])
                self.stops(lambda: Name(len(name) - 1, 1, ends), name[:-1], name[-1])

    def test_an_end_name_longer_than_the_greatest_length(self):
        for name in END_NAMES:
            for most in (1, 2, 3):
                for room in (0, 1):
                    self.good(lambda: Name(most, room, (name,)), name, name)
                    self.stops(lambda: Name(most, room, (name,)), name, "s")
                    self.stops(lambda: Name(most, room, (name,)), name[:3], "z")
                self.unready(lambda: Name(most, 0, (name,)), name[:-1])
            self.unready(lambda: Name(2, 1, (name,)), name[:-1])

    def test_a_beginning_of_an_end_name_is_a_name_where_there_is_room(self):
        for name in END_NAMES:
            for size in range(1, len(name)):
                self.good(lambda: Name(12, 1, END_NAMES), name[:size], name[:size])
                self.unready(lambda: Name(12, 0, END_NAMES), name[:size])

    def test_no_room(self):
        for sign in PLAIN:
            if sign in "lpr":
                self.unready(lambda: Name(12, 0, END_NAMES), sign)
            else:
                self.stops(lambda: Name(12, 0, END_NAMES), "", sign)
            self.stops(lambda: Name(12, 0, ()), "", sign)
        self.unready(lambda: Name(12, 0, ("rest",)), "")
        self.stops(lambda: Name(12, 0, ENDS_OF_PARTS), "", "r")
        self.stops(lambda: Name(12, 0, END_NAMES), "rest", "a")
        self.assertIs(Name(12, 0, ()).good(), False)

    def test_no_end_names_at_all(self):
        for name in ("a", "res", "resta", "lengths", "abcdefuvwxyz"):
            self.good(lambda: Name(12, 1, ()), name, name)
        self.stops(lambda: Name(12, 1, ()), "abcdefuvwxyz", "a")
        self.unready(lambda: Name(12, 1, ()), "")

    def test_lengths(self):
        for most in (1, 2, 12, 1000):
            for ends in ((), END_NAMES):
                for size in {1, most}:
                    self.good(lambda: Name(most, 1, ends), "z" * size, "z" * size)
                self.stops(lambda: Name(most, 1, ends), "z" * most, "z")
        self.stops(lambda: Name(0, 1, END_NAMES), "", "a")
        self.good(lambda: Name(0, 1, END_NAMES), "rest", "rest")


if __name__ == "__main__":
    unittest.main()
