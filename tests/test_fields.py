"""Promises 2, 4 and 14: rows of fields."""

import re
import unittest

from framepost.fields import Fields
from framepost.signs import END_NAMES, USUAL
from helper import PLAIN, fed_on, look_all_over, look_along, look_at, rows, tails_of

ENDS_OF_PARTS = ("length", "pieces", "parts")
END_ROWS = ("length: 0", "pieces: yes", "parts: yes", "rest: yes")
TAILS = tails_of([rows("a: a", "")] + [rows(row, "") for row in END_ROWS])
ROW = re.compile(r"([a-z]+): ([^;\n ]|[^;\n ][^;\n]*[^;\n ])")


def is_end_row(row, ends, most):
    name, value = row.partition(": ")[::2]
    if name not in ends:
        return False
    if name != "length":
        return value == "yes"
    return value in [str(number) for number in range(most + 1)]


def is_field(row, book):
    match = ROW.fullmatch(row)
    return (match is not None and len(match[1]) <= book[1] and len(match[2]) <= book[2]
            and match[1] not in END_NAMES)


def are_fields(text, book, room, ends):
    """Whether a whole text is rows of fields up to an empty row, looked at row by row."""
    if text == ";\n":
        return True
    if not text.endswith(";\n;\n"):
        return False
    parts = text[:-4].split(";\n")
    if is_end_row(parts[-1], ends, book[4]):
        parts.pop()
    return len(parts) <= room and all(is_field(row, book) for row in parts)


def begins_by(book, room, ends):
    return lambda text: any(are_fields(text + tail, book, room, ends) for tail in TAILS)


class Reading(unittest.TestCase):
    def read(self, text, book=USUAL, room=12, ends=END_NAMES):
        return fed_on(Fields(book, room, ends), text)

    def assert_told(self, text, pairs, end, left, book=USUAL, room=12, ends=END_NAMES):
        """What rows tell when this text, no whole one perhaps, was fed."""
        machine = self.read(text, book, room, ends)
        self.assertEqual(machine.told(), pairs, repr(text))
        self.assertIs(type(machine.told()), tuple)
        self.assertEqual(machine.told_end(), end, repr(text))
        self.assertEqual(machine.room_left(), left, repr(text))
        return machine

    def stops(self, text, sign, book=USUAL, room=12, ends=END_NAMES):
        machine = self.read(text, book, room, ends)
        before = (machine.whole(), machine.awaited(), machine.told(), machine.told_end(), machine.room_left())
        self.assertIs(machine.fed(sign), False, repr((text, sign)))
        after = (machine.whole(), machine.awaited(), machine.told(), machine.told_end(), machine.room_left())
        self.assertEqual(after, before, repr((text, sign)))


class Told(Reading):
    def test_no_field(self):
        for room in (0, 1, 12):
            for ends in ((), END_NAMES):
                machine = self.assert_told(rows(""), (), None, room, USUAL, room, ends)
                self.assertIs(machine.whole(), True)
                self.assertEqual(machine.awaited(), "")

    def test_as_many_fields_as_there_is_room(self):
        for room in (1, 2, 12):
            for count in range(room + 1):
                text = rows(*("n: v",) * count)
                self.assert_told(text, (("n", "v"),) * count, None, room - count, room=room)
                self.assertIs(self.read(text, room=room).whole(), False)
                self.assertIs(self.read(text + rows(""), room=room).whole(), True)
            self.stops(text, "n", room=room)
            self.stops(text, "n", room=room, ends=())

    def test_fields_in_their_order(self):
        text = rows("to: bob", "a: x: y  z", "to: al", "b: :", "res: yes", "rests: 1", "lengths: 2", "")
        self.assert_told(text, (("to", "bob"), ("a", "x: y  z"), ("to", "al"), ("b", ":"), ("res", "yes"),
                                ("rests", "1"), ("lengths", "2")), None, 5)

    def test_each_end_row(self):
        ends = [("length", 0), ("length", 7), ("length", 10), ("length", 400), ("pieces", 0), ("parts", 0), ("rest", 0)]
        for name, number in ends:
            row = f"{name}: {number}" if name == "length" else f"{name}: yes"
            for count in (0, 1, 12):
                text = rows(*("n: v",) * count + (row,))
                for whole in (text, text + rows("")):
                    machine = self.assert_told(whole, (("n", "v"),) * count, (name, number), 12 - count)
                    self.assertIs(type(machine.told_end()), tuple)
                    self.assertIs(machine.whole(), whole != text)

    def test_what_is_told_in_the_middle_of_a_row(self):
        row = rows("to: bob")
        for size in range(len(row)):
            self.assert_told(row[:size], (), None, 12)
            self.assert_told(row + row[:size], (("to", "bob"),), None, 11)
        self.assert_told(row + row, (("to", "bob"), ("to", "bob")), None, 10)
        row = rows("length: 12")
        for size in range(len(row)):
            self.assert_told(row[:size], (), None, 12)
            self.assert_told(rows("to: bob") + row[:size], (("to", "bob"),), None, 11)
        for text in (row, row + ";", row + ";\n"):
            self.assert_told(text, (), ("length", 12), 12)
        self.assert_told(rows("to: bob", "rest: yes") + ";", (("to", "bob"),), ("rest", 0), 11)

    def test_what_was_told_stays_as_it_was(self):
        machine = self.read(rows("n: v"))
        told = machine.told()
        fed_on(machine, rows("m: w", ""))
        self.assertEqual(told, (("n", "v"),))
        self.assertEqual(machine.told(), (("n", "v"), ("m", "w")))


class Lengths(Reading):
    def test_from_nought_to_the_body_of_the_book(self):
        for most in (0, 1, 9, 10, 400, 1000):
            book = (8, 12, 40, 12, most, 12, 6)
            for number in {0, most // 2, most}:
                self.assert_told(rows(f"length: {number}", ""), (), ("length", number), 12, book)
            beyond = str(most + 1)
            self.stops("length: " + beyond[:-1], beyond[-1], book)

    def test_no_nought_ahead_and_no_other_figures(self):
        self.stops("length: 0", "0")
        self.stops("length: 0", "1")
        for sign in "abf+- ;\n":
            self.stops("length: ", sign)
        for sign in "abf+- :\n":
            self.stops("length: 1", sign)


class EndRows(Reading):
    def test_nothing_but_the_empty_row_behind_an_end_row(self):
        for row in END_ROWS + ("length: 5",):
            for ahead in ((), ("n: v",)):
                for sign in PLAIN.replace(";", ""):
                    self.stops(rows(*ahead, row), sign)
                for sign in PLAIN.replace("\n", ""):
                    self.stops(rows(*ahead, row) + ";", sign)

    def test_end_names_that_may_not_stand(self):
        self.stops("rest", ":", ends=ENDS_OF_PARTS)
        self.stops("", "r", room=0, ends=ENDS_OF_PARTS)
        self.stops("res", "t", book=(8, 4, 40, 12, 400, 12, 6), ends=ENDS_OF_PARTS)
        for name in END_NAMES:
            self.stops(name, ":", ends=())
            self.assert_told(rows(name + "s: yes", ""), ((name + "s", "yes"),), None, 11, ends=())

    def test_an_end_row_tells_yes_and_nothing_else(self):
        for name in ("pieces", "parts", "rest"):
            for sign in PLAIN.replace("y", ""):
                self.stops(name + ": ", sign)
            self.stops(name + ": y", ";")
            self.stops(name + ": ye", ";")
            for sign in PLAIN.replace(";", ""):
                self.stops(name + ": yes", sign)

    def test_end_rows_take_no_room(self):
        for row in END_ROWS:
            self.assert_told(rows(row, ""), (), self.read(rows(row)).told_end(), 0, room=0)
            name = row.partition(":")[0]
            self.stops("", name[0], room=0, ends=())

    def test_end_names_longer_than_a_name_may_be(self):
        book = (1, 1, 1, 1, 1, 0, 0)
        for row in END_ROWS:
            machine = self.assert_told(rows("a: b", row, ""), (("a", "b"),), self.read(rows(row)).told_end(), 0, book, 1)
            self.assertIs(machine.whole(), True)


class Places(Reading):
    BOOKS = ((1, 1, 1, 12, 1, 0, 0), (1, 4, 2, 12, 10, 0, 0), (1, 5, 3, 12, 0, 0, 0))

    def test_all_places_of_small_books(self):
        for room in (0, 1, 2):
            for ends in ((), ("rest",), ("length",), ENDS_OF_PARTS):
                book = (1, 1, 1, 12, 1, 0, 0)
                look_all_over(self, lambda: Fields(book, room, ends), "ar:; \n01", begins_by(book, room, ends), 40)

    def test_along_some_rows(self):
        texts = [rows(""), rows("n: v", ""), rows("a: b c", "length: 1", ""), rows("n: v", "rest: yes", ""),
                 rows("res: y", "pieces: yes", ""), rows("rests: 1", "m: 2", "length: 0", ""), rows("parts: yes", "")]
        for book in self.BOOKS:
            for room in (0, 1, 2):
                for ends in ((), END_NAMES, ENDS_OF_PARTS):
                    begins = begins_by(book, room, ends)
                    for text in texts:
                        while text and not begins(text):
                            text = text[:-1]
                        look_along(self, lambda: Fields(book, room, ends), text, "aehlpst:; \n012yA~", begins)

    def test_each_sign_at_the_beginning_of_a_row(self):
        for room in (0, 1, 2):
            for ends in ((), ("rest",), ENDS_OF_PARTS, END_NAMES):
                begins = begins_by(USUAL, room, ends)
                look_at(self, lambda: Fields(USUAL, room, ends), "", PLAIN, begins)
                if room > 0:
                    look_at(self, lambda: Fields(USUAL, room, ends), rows("n: v"), PLAIN, begins)

    def test_nothing_behind_the_empty_row(self):
        for text in (rows(""), rows("n: v", ""), rows("length: 3", ""), rows("rest: yes", "")):
            for sign in PLAIN:
                self.stops(text, sign)

    def test_half_a_row_end_is_no_end(self):
        for text in (";", "n: v;", "rest: yes;", "length: 1;"):
            for sign in PLAIN.replace("\n", ""):
                self.stops(text, sign)

    def test_where_no_value_is_good_no_field_is_begun(self):
        book = (1, 4, 0, 12, 1, 0, 0)
        for sign in PLAIN:
            if sign not in ";lpr":
                self.stops("", sign, book)
        self.stops("res", ":", book)
        self.assert_told(rows("rest: yes", ""), (), ("rest", 0), 12, book)


if __name__ == "__main__":
    unittest.main()
