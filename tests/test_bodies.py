"""Promises 2, 4, 15 and 16: bodies, read sign by sign."""

import unittest

from framepost.bodies import Body, Tally, body_of
from framepost.signs import USUAL
from helper import NONE, PLAIN, fed_on, fields, look_all_over, look_along, nested, plain_reading, rows, tails_of

LENGTH, PIECES, PARTS, REST = ("length", 0), ("pieces", 0), ("parts", 0), ("rest", 0)
# Endings that make each body whole that can be made so, of the small books below.
TEXT_TAILS = tails_of(["aaa"])
PIECES_TAILS = tails_of([rows("a" * size, "0", "") for size in range(4)]
                        + [rows(f"{size}", "a" * size, "0", "") for size in (1, 2, 3)] + [rows("a: a", "")])
PART_TAILS = tails_of([rows("parts: yes", "", "-"), rows("+", "", "-"), rows("pieces: yes", "", "0", "")]
                      + [rows(f"length: {size}", "") + "a" * size for size in range(4)])
PARTS_TAILS = sorted({tail + "-;\n" * deep for tail in PART_TAILS + PIECES_TAILS for deep in range(3)}, key=len)


def book_with(body=400, parts=12, deep=6, most_fields=12):
    return (8, 12, 40, most_fields, body, parts, deep)


def made(end, book=USUAL, room=12, deep=0, parts=None):
    return body_of(end, book, room, deep, Tally(book[5] - deep if parts is None else parts))


def whole_body(end, book, room, deep, text):
    """The body that a text is, found by reading a whole road with that text in it; or None.

    Behind a whole body another letter, or another part, can come: with it, the text is no body any more.
    """
    own = ("n: v",) * (book[3] - room)
    row = () if end is None else (f"{end[0]}: {end[1]}",) if end[0] == "length" else (end[0] + ": yes",)
    road = "w;\n" + rows("parts: yes", "", "+") * deep + rows(*own, *row, "") + text + "-;\n" * deep
    letters = plain_reading(road, book)
    if letters is None or len(letters) != 1:
        return None
    body = letters[0][2]
    for number in range(deep):
        if len(body[1]) != 1:
            return None
        body = body[1][0][1]
    return body


def begins_by(end, book, room, deep):
    tails = PARTS_TAILS if end == PARTS else PIECES_TAILS if end == PIECES else TEXT_TAILS
    return lambda text: any(whole_body(end, book, room, deep, text + tail) is not None for tail in tails)


class Reading(unittest.TestCase):
    def whole(self, end, text, body, book=USUAL, room=12, deep=0, parts=None):
        """That a text is read as this whole body, and as one at its end alone, but for a rest."""
        machine = made(end, book, room, deep, parts)
        self.assertIsInstance(machine, Body)
        is_rest = body[0] == "rest"
        for sign in text:
            self.assertIs(machine.whole(), is_rest, repr(text))
            self.assertIs(machine.is_open(), is_rest)
            self.assertIs(machine.fed(sign), True, repr((text, sign)))
        self.assertIs(machine.whole(), True, repr(text))
        self.assertIs(machine.is_open(), is_rest)
        self.assertEqual(machine.awaited(), "")
        self.assertEqual(machine.told(), body)
        if not is_rest:
            for sign in PLAIN:
                self.assertIs(machine.fed(sign), False, repr((text, sign)))
            self.assertEqual((machine.whole(), machine.awaited(), machine.told()), (True, "", body))
        return machine

    def stops(self, end, text, sign, book=USUAL, room=12, deep=0, parts=None):
        machine = fed_on(made(end, book, room, deep, parts), text)
        before = (machine.whole(), machine.is_open(), machine.awaited())
        for number in range(3):
            self.assertIs(machine.fed(sign), False, repr((text, sign)))
            self.assertEqual((machine.whole(), machine.is_open(), machine.awaited()), before)
        if not machine.whole():
            self.assertIs(fed_on(machine, machine.awaited()).whole(), True)

    def finished(self, end, text, book=USUAL, room=12, deep=0, parts=None):
        """The body that this beginning becomes when what it awaits is fed on."""
        machine = fed_on(made(end, book, room, deep, parts), text)
        self.assertIs(machine.whole(), False, repr(text))
        self.assertIs(machine.is_open(), False)
        awaited = machine.awaited()
        fed_on(machine, awaited)
        self.assertIs(machine.whole(), True)
        self.assertEqual(machine.awaited(), "")
        return machine.told()


class NoneLengthRest(Reading):
    def test_none(self):
        for deep in (0, 1):
            self.whole(None, "", NONE, deep=deep)
            self.whole(None, "", NONE, book_with(0, 0, 0, 0), room=0, deep=deep)

    def test_length(self):
        self.whole(("length", 0), "", ("length", ""))
        for text in ("a", ";\n", "hi\n", "0;\n;\n", PLAIN, "x" * 400):
            for deep in (0, 1):
                self.whole(("length", len(text)), text, ("length", text), deep=deep)

    def test_any_sign_may_stand_in_a_length_and_a_rest(self):
        for sign in PLAIN:
            self.whole(("length", 1), sign, ("length", sign))
            self.whole(REST, sign, ("rest", sign))

    def test_a_length_awaits_as_many_signs_as_are_missing(self):
        for number in (1, 2, 400):
            for size in {0, 1, number - 1} - {number}:
                kind, text = self.finished(("length", number), "x" * size)
                self.assertEqual((kind, len(text), text[:size]), ("length", number, "x" * size))

    def test_rest(self):
        for most in (0, 1, 5, 400):
            book = book_with(most)
            for size in {0, most // 2, most}:
                machine = self.whole(REST, "x" * size, ("rest", "x" * size), book)
                self.assertIs(machine.fed("y"), size < most)
            for sign in PLAIN:
                self.stops(REST, "x" * most, sign, book)
            full = fed_on(made(REST, book), "x" * most)
            self.assertIs(full.fed("y"), False)
            self.assertEqual((full.whole(), full.is_open(), full.told()), (True, True, ("rest", "x" * most)))


class Pieces(Reading):
    def test_whole_ones(self):
        self.whole(PIECES, rows("0", ""), ("pieces", (), ()))
        self.whole(PIECES, rows("3", "hi\n", "1", "x", "0", "sum: 4", ""), ("pieces", ("hi\n", "x"), (("sum", "4"),)))
        for text in (";\n", "0;\n;\n", "-", "x" * 10, "x" * 16, "x" * 255, "x" * 400, PLAIN):
            for deep in (0, 1):
                self.whole(PIECES, rows(f"{len(text):x}", text, "0", ""), ("pieces", (text,), ()), deep=deep)

    def test_all_together_up_to_the_body_of_the_book(self):
        for most in (1, 2, 15, 16, 17, 255, 400):
            book = book_with(most)
            for sizes in ((most,), (1, most - 1), (most - 1, 1), (1,) * min(most, 20)):
                texts = tuple("x" * size for size in sizes if size)
                road = "".join(rows(f"{len(text):x}", text) for text in texts)
                self.whole(PIECES, road + rows("0", ""), ("pieces", texts, ()), book)
                left = most - sum(len(text) for text in texts)
                beyond = f"{left + 1:x}"
                self.stops(PIECES, road + beyond[:-1], beyond[-1], book)

    def test_only_the_nought_where_no_sign_is_left(self):
        for text, book in (("", book_with(0)), (rows("1", "x"), book_with(1)), (rows("2", "xy", "f", "z" * 15), book_with(17))):
            for sign in PLAIN.replace("0", ""):
                self.stops(PIECES, text, sign, book)
            self.finished(PIECES, text, book)

    def test_sizes_without_noughts_ahead_and_by_small_figures(self):
        for sign in PLAIN.replace(";", ""):
            self.stops(PIECES, "0", sign)
        for sign in PLAIN:
            if sign not in "0123456789abcdef":
                self.stops(PIECES, "", sign)
            if sign not in "0123456789abcdef;":
                self.stops(PIECES, "1", sign)

    def test_the_row_end_behind_a_piece(self):
        for text in (rows("2") + "xy", rows("2") + ";\n"):
            for sign in PLAIN.replace(";", ""):
                self.stops(PIECES, text, sign)
            for sign in PLAIN.replace("\n", ""):
                self.stops(PIECES, text + ";", sign)

    def test_the_trail_has_the_room_that_is_left(self):
        for room in (0, 1, 2, 12):
            for deep in (0, 1):
                for count in {0, min(1, room), room}:
                    text = rows("1", "x", "0", *("n: v",) * count, "")
                    self.whole(PIECES, text, ("pieces", ("x",), fields(count)), room=room, deep=deep)
                for sign in PLAIN.replace(";", ""):
                    self.stops(PIECES, rows("0", *("n: v",) * room), sign, room=room, deep=deep)

    def test_no_end_name_in_the_trail(self):
        for name in ("length", "pieces", "parts", "rest"):
            self.stops(PIECES, rows("0") + name, ":")
            self.stops(PIECES, rows("0"), name[0], room=0)
        self.stops(PIECES, rows("0") + "res", "t", (8, 4, 40, 12, 400, 12, 6))
        self.whole(PIECES, rows("0", "rests: yes", ""), ("pieces", (), (("rests", "yes"),)))

    def test_awaited(self):
        self.assertEqual(self.finished(PIECES, ""), ("pieces", (), ()))
        self.assertEqual(self.finished(PIECES, "0"), ("pieces", (), ()))
        for text in ("3", "3;", "3;\n", "3;\na", "3;\nabc", "3;\nabc;"):
            kind, texts, trail = self.finished(PIECES, text)
            self.assertEqual((kind, [len(piece) for piece in texts], trail), ("pieces", [3], ()))
        self.assertEqual(self.finished(PIECES, rows("3", "abc")), ("pieces", ("abc",), ()))
        self.assertEqual(self.finished(PIECES, rows("3", "abc", "0", "n: v")), ("pieces", ("abc",), (("n", "v"),)))
        kind, texts, trail = self.finished(PIECES, rows("3", "abc", "0") + "rest")
        self.assertEqual((texts, len(trail), trail[0][0][:4]), (("abc",), 1, "rest"))


class Parts(Reading):
    def test_no_parts_anywhere(self):
        for book in (USUAL, book_with(parts=0, deep=0)):
            for deep in (0, 1, 6):
                self.whole(PARTS, "-;\n", ("parts", ()), book, deep=deep, parts=book[5])

    def test_whole_ones(self):
        self.whole(PARTS, rows("+", "", "-"), ("parts", (((), NONE),)))
        body = ("parts", (
            ((("n", "1"), ("m", "2")), ("length", "-;\n")),
            ((), ("pieces", ("abc",), (("t", "3"),))),
            ((), ("parts", (((("n", "4"),), NONE), ((), ("length", ""))))),
            ((("n", "5"),), ("parts", ())),
        ))
        self.whole(PARTS, (
            "+;\nn: 1;\nm: 2;\nlength: 3;\n;\n-;\n"
            "+;\npieces: yes;\n;\n3;\nabc;\n0;\nt: 3;\n;\n"
            "+;\nparts: yes;\n;\n+;\nn: 4;\n;\n+;\nlength: 0;\n;\n-;\n"
            "+;\nn: 5;\nparts: yes;\n;\n-;\n"
            "-;\n"
        ), body)

    def test_beside_one_another(self):
        for most in (0, 1, 3, 12, 1000):
            book = book_with(parts=most)
            text = rows("+", "") * most
            self.whole(PARTS, text + "-;\n", ("parts", (((), NONE),) * most), book)
            self.stops(PARTS, text, "+", book)

    def test_within_one_another(self):
        for deep in (0, 1, 2, 6, 20):
            book = book_with(parts=1000, deep=deep)
            text = rows("+", "parts: yes", "") * deep
            self.whole(PARTS, text + "-;\n" * (deep + 1), nested(deep, ("parts", ())), book)
            self.stops(PARTS, text, "+", book)

    def test_the_depth_at_which_a_body_lies(self):
        for deep in range(8):
            text = rows("+", "parts: yes", "") * max(0, 6 - deep)
            self.stops(PARTS, text, "+", deep=deep, parts=1000)
            self.whole(PARTS, text + "-;\n" * (1 + max(0, 6 - deep)), nested(max(0, 6 - deep), ("parts", ())),
                       deep=deep, parts=1000)

    def test_parts_are_counted_over_the_whole_letter(self):
        inner = rows("+", "parts: yes", "", "+", "", "-")
        self.whole(PARTS, inner * 2 + "-;\n", ("parts", (((), nested(1)),) * 2), book_with(parts=4))
        self.stops(PARTS, inner * 2, "+", book_with(parts=4))
        self.stops(PARTS, inner + rows("+", "parts: yes", ""), "+", book_with(parts=3))
        self.stops(PARTS, inner + "+", "+", book_with(parts=3))

    def test_a_part_counts_as_soon_as_its_sign_is_taken_in(self):
        tally = Tally(2)
        one = body_of(PARTS, USUAL, 12, 0, tally)
        two = body_of(PARTS, USUAL, 12, 1, tally)
        three = body_of(PARTS, USUAL, 12, 0, tally)
        self.assertIs(one.fed("+"), True)
        self.assertIs(one.fed("+"), False)
        self.assertIs(two.fed("+"), True)
        self.assertIs(three.fed("+"), False)
        self.assertEqual([body.awaited()[-3:] for body in (one, two, three)], ["-;\n"] * 3)
        fed_on(one, ";\n;\n")
        self.assertIs(one.fed("+"), False)
        for body, count in ((one, 1), (two, 1), (three, 0)):
            fed_on(body, body.awaited())
            self.assertEqual(body.told(), ("parts", (((), NONE),) * count))

    def test_a_sign_that_is_not_taken_in_counts_no_part(self):
        tally = Tally(1)
        too_deep = body_of(PARTS, USUAL, 12, 6, tally)
        for number in range(3):
            self.assertIs(too_deep.fed("+"), False)
        self.assertEqual(too_deep.awaited(), "-;\n")
        body = body_of(PARTS, USUAL, 12, 0, tally)
        self.assertEqual(body.awaited(), "-;\n")
        self.assertIs(body.fed("+"), True)

    def test_no_rest_in_a_part(self):
        self.stops(PARTS, rows("+") + "rest", ":")
        self.stops(PARTS, rows("+", "parts: yes", "", "+") + "rest", ":")
        self.stops(PARTS, rows("+", *("n: v",) * 12), "r")
        self.stops(PARTS, rows("+") + "res", "t", (8, 4, 40, 12, 400, 12, 6))

    def test_the_fields_of_a_part_have_room_of_their_own(self):
        text = rows("+", *("n: v",) * 12, "pieces: yes", "", "0", "")
        self.whole(PARTS, text + "-;\n", ("parts", ((fields(12), ("pieces", (), ())),)), room=0)
        self.stops(PARTS, rows("+", *("n: v",) * 12), "n")
        for own in (0, 5, 12):
            head = rows("+", *("n: v",) * own, "pieces: yes", "", "0", *("n: v",) * (12 - own))
            self.whole(PARTS, head + ";\n-;\n", ("parts", ((fields(own), ("pieces", (), fields(12 - own))),)))
            self.stops(PARTS, head, "n")

    def test_bodies_in_parts_keep_the_book(self):
        book = book_with(body=9)
        self.stops(PARTS, rows("+") + "length: 1", "0", book)
        self.stops(PARTS, rows("+", "pieces: yes", "", "9", "x" * 9), "1", book)
        full = rows("+", "length: 9", "") + "x" * 9
        self.whole(PARTS, full * 3 + "-;\n", ("parts", (((), ("length", "x" * 9)),) * 3), book)

    def test_each_sign_where_a_row_begins(self):
        for text in ("", rows("+", ""), rows("+", "parts: yes", "")):
            for sign in PLAIN:
                if sign not in "+-":
                    self.stops(PARTS, text, sign)
            for first in "+-":
                for sign in PLAIN.replace(";", ""):
                    self.stops(PARTS, text + first, sign)
                for sign in PLAIN.replace("\n", ""):
                    self.stops(PARTS, text + first + ";", sign)

    def test_awaited(self):
        for text in ("", "-", "-;"):
            self.assertEqual(self.finished(PARTS, text), ("parts", ()))
        for text in ("+", "+;", "+;\n", "+;\n;", "+;\n;\n", "+;\n;\n-", "+;\n;\n-;"):
            self.assertEqual(self.finished(PARTS, text), ("parts", (((), NONE),)))
        for text in ("+;\nlength: 3", "+;\nlength: 3;", "+;\nlength: 3;\n", "+;\nlength: 3;\n;\n", "+;\nlength: 3;\n;\nab"):
            kind, parts = self.finished(PARTS, text)
            self.assertEqual([(own, body[0], len(body[1])) for own, body in parts], [((), "length", 3)])
        self.assertEqual(self.finished(PARTS, "+;\npieces: ye"), ("parts", (((), ("pieces", (), ())),)))
        self.assertEqual(self.finished(PARTS, "+;\nparts:"), ("parts", (((), ("parts", ())),)))
        self.assertEqual(self.finished(PARTS, rows("+", "parts: yes", "") * 5 + "+"), nested(6))


class Places(Reading):
    """Every place of small books, and places along longer texts, held against readings of whole roads."""

    SIGNS = "ar:; \n01+-"

    def look(self, end, book, room, deep, text=None):
        begins = begins_by(end, book, room, deep)
        if text is not None:
            look_along(self, lambda: made(end, book, room, deep), text, self.SIGNS + "29lpty~", begins)
            self.assertEqual(fed_on(made(end, book, room, deep), text).told(), whole_body(end, book, room, deep, text))
            return
        seen = look_all_over(self, lambda: made(end, book, room, deep), self.SIGNS, begins, 14)
        for text in seen:
            body = whole_body(end, book, room, deep, text)
            machine = fed_on(made(end, book, room, deep), text)
            self.assertIs(machine.whole(), body is not None, repr(text))
            if body is not None:
                self.assertEqual(machine.told(), body)

    def test_all_places_of_small_books(self):
        book = (1, 1, 1, 1, 1, 1, 1)
        for end in (None, LENGTH, ("length", 1), PIECES, REST):
            for deep in (0, 1):
                for room in (0, 1):
                    if end != REST or deep == 0:
                        self.look(end, book, room, deep)

    def test_all_places_of_small_parts(self):
        for book in ((1, 1, 1, 0, 0, 2, 1), (1, 1, 1, 0, 0, 0, 1), (1, 1, 1, 0, 0, 1, 0)):
            self.look(PARTS, book, 0, 0)
        self.look(PARTS, (1, 1, 1, 0, 0, 2, 1), 0, 1)

    def test_along_some_texts(self):
        book = (2, 4, 2, 2, 3, 3, 2)
        self.look(PIECES, book, 2, 0, rows("1", "x", "2", ";\n", "0", "res: a", "n: b", ""))
        self.look(PIECES, book, 1, 1, rows("3", "+;\n", "0", "n: ab", ""))
        self.look(PARTS, book, 0, 0, rows("+", "n: v", "length: 1", "") + "x" + rows("+", "parts: yes", "", "+", "", "-", "-"))
        self.look(PARTS, book, 0, 1, rows("+", "pieces: yes", "", "2", "ab", "0", "n: v", "", "+", "", "-"))
        self.look(("length", 3), book, 0, 0, "0;\n")
        self.look(REST, book, 0, 0, "-;\n")


if __name__ == "__main__":
    unittest.main()
