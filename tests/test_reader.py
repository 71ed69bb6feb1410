"""Promises 2, 4, 5, 17, 18 and 19: the strict reader."""

import unittest

from framepost.errors import Cut, FrameError, Refused
from framepost.letters import keeps
from framepost.reader import Reader, read_all
from framepost.signs import USUAL
from framepost.writer import written, written_all
from helper import ASK, BARE_REST, EMPTY, LISTS, NONE, PARTS, PIECES, REST, SMALL_BOOKS, TAILS, TELL, TRY_SIGNS, Maker
from helper import all_cuts, fields, nested, plain_reading, roads_amiss, rows


def fed_by(reader, pieces):
    """The number at which the feeding is refused, or None."""
    for piece in pieces:
        try:
            reader.feed(piece)
        except Refused as refusal:
            return refusal.at
    return None


def fed(road, book=None):
    reader = Reader(book)
    reader.feed(road)
    return reader


class Reading(unittest.TestCase):
    def refused(self, road, at, book=None):
        """That a road is refused there, however it is cut, and what is left of it then."""
        told = []
        for pieces in all_cuts(road):
            reader = Reader(book)
            self.assertEqual(fed_by(reader, pieces), at, repr(road))
            self.refused_for_good(reader, at)
            told.append((reader.letters(), reader.in_hand()))
        self.assertEqual(told, [told[0]] * len(told))
        before = fed(road[:at], book)
        self.assertEqual(told[0], (before.letters(), before.in_hand()))
        with self.assertRaises(Refused) as caught:
            read_all(road, book)
        self.assertEqual(caught.exception.at, at)

    def refused_for_good(self, reader, at):
        before = (reader.letters(), reader.in_hand())
        for call in (lambda: reader.feed(""), lambda: reader.feed("ask;\n;\n"), reader.finish, reader.awaited,
                     lambda: reader.feed(";"), reader.finish):
            with self.assertRaises(Refused) as caught:
                call()
            self.assertEqual(caught.exception.at, at)
            self.assertIs(reader.may_end(), False)
            self.assertEqual((reader.letters(), reader.in_hand()), before)

    def cut(self, road, book=None):
        """That a road may not end there, and what it awaits brings it to where it may, with no letter more."""
        reader = fed(road, book)
        letters, held = reader.letters(), reader.in_hand()
        self.assertIs(reader.may_end(), False, repr(road))
        awaited = reader.awaited()
        self.assertNotEqual(awaited, "")
        with self.assertRaises(Cut) as caught:
            reader.finish()
        self.assertEqual(caught.exception.at, len(road))
        self.assertEqual((reader.letters(), reader.in_hand()), (letters, held))
        with self.assertRaises(Cut) as caught:
            read_all(road, book)
        self.assertEqual(caught.exception.at, len(road))
        full = fed(road + awaited, book)
        self.assertIs(full.may_end(), True, repr((road, awaited)))
        self.assertEqual(full.awaited(), "")
        self.assertEqual(full.letters()[:len(letters)], letters)
        full.finish()
        self.assertEqual(len(full.letters()), len(letters) + 1)
        self.assertEqual(full.letters(), plain_reading(road + awaited, USUAL if book is None else book))

    def may_end(self, road, letters, book=None):
        reader = fed(road, book)
        self.assertIs(reader.may_end(), True, repr(road))
        self.assertEqual(reader.awaited(), "")
        reader.finish()
        self.assertEqual(reader.letters(), letters)
        self.assertEqual(read_all(road, book), letters)


class Letters(Reading):
    def test_the_example_of_the_document(self):
        road = "ask;\nto: bob;\npieces: yes;\n;\n3;\nhi\n;\n1;\nx;\n0;\nsum: 4;\n;\n"
        self.assertEqual(read_all(road), [PIECES])

    def test_no_sign_is_no_letter(self):
        self.may_end("", [])
        reader = Reader()
        self.assertEqual((reader.letters(), reader.in_hand(), reader.may_end(), reader.awaited()), ([], 0, True, ""))
        reader.feed("")
        self.assertEqual((reader.letters(), reader.in_hand(), reader.may_end(), reader.awaited()), ([], 0, True, ""))

    def test_several_letters_however_the_road_is_cut(self):
        for letters in LISTS:
            road = written_all(letters)
            self.may_end(road, letters)
            for pieces in all_cuts(road):
                reader = Reader()
                self.assertIsNone(fed_by(reader, pieces))
                self.assertIs(reader.may_end(), True)
                reader.finish()
                self.assertEqual(reader.letters(), letters)

    def test_the_kinds_of_what_is_told(self):
        reader = fed(written_all([PARTS, REST]))
        self.assertIs(type(reader.letters()), list)
        self.assertIs(type(reader.in_hand()), int)
        self.assertIs(type(reader.awaited()), str)
        reader.finish()
        for word, own, body in reader.letters():
            self.assertEqual((type(word), type(own), type(body)), (str, tuple, tuple))

    def test_at_each_place_the_same_however_the_road_is_cut(self):
        road = written_all([TELL, PIECES, PARTS, EMPTY, ASK, REST])
        told = []
        one_by_one = Reader()
        for at in range(len(road) + 1):
            told.append((one_by_one.letters(), one_by_one.in_hand(), one_by_one.may_end(), one_by_one.awaited()))
            one_by_one.feed(road[at:at + 1])
        for at in range(len(road) + 1):
            at_once = fed(road[:at])
            self.assertEqual((at_once.letters(), at_once.in_hand(), at_once.may_end(), at_once.awaited()), told[at])
        for size in (2, 5, 30):
            reader = Reader()
            for at in range(0, len(road) - size, size):
                reader.feed(road[at:at + size])
                self.assertEqual((reader.letters(), reader.in_hand(), reader.may_end(), reader.awaited()), told[at + size])

    def test_in_hand(self):
        letters = [TELL, PIECES, PARTS, EMPTY, ASK, REST]
        sizes = [len(written(letter)) for letter in letters]
        reader = Reader()
        for number, letter in enumerate(letters[:-1]):
            for at, sign in enumerate(written(letter)):
                self.assertEqual((reader.in_hand(), reader.letters()), (at, letters[:number]))
                self.assertIs(reader.may_end(), at == 0)
                reader.feed(sign)
        head = len("tell;\nn: v;\nrest: yes;\n;\n")
        for at, sign in enumerate(written(REST)):
            self.assertEqual((reader.in_hand(), reader.letters()), (at, letters[:-1]))
            self.assertIs(reader.may_end(), at == 0 or at >= head)
            reader.feed(sign)
        self.assertEqual((reader.in_hand(), reader.letters()), (sizes[-1], letters[:-1]))
        reader.finish()
        self.assertEqual(reader.letters(), letters)

    def test_lists_told_are_the_askers_own(self):
        reader = fed(written_all([ASK, TELL]))
        first = reader.letters()
        first.clear()
        second = reader.letters()
        self.assertEqual(second, [ASK, TELL])
        second.append(ASK)
        reader.feed(written(EMPTY))
        self.assertEqual(reader.letters(), [ASK, TELL, EMPTY])
        self.assertEqual(second, [ASK, TELL, ASK])
        reader.finish()
        reader.letters().clear()
        self.assertEqual(reader.letters(), [ASK, TELL, EMPTY])
        told = read_all("ask;\n;\n")
        told.clear()
        self.assertEqual(read_all("ask;\n;\n"), [ASK])

    def test_readers_do_not_touch_one_another(self):
        one, other = Reader(), Reader((3, 1, 1, 0, 0, 1, 1))
        for sign in "ask;\nparts: yes;\n;\n+;\n;\n":
            one.feed(sign)
            other.feed(sign)
        self.assertEqual(fed_by(other, ["+"]), 24)
        one.feed("+;\n;\n-;\n")
        self.assertEqual(one.letters(), [("ask", (), ("parts", (((), NONE), ((), NONE))))])

    def test_parts_are_counted_anew_for_each_letter(self):
        letter = ("a", (), ("parts", (((), NONE),) * 12))
        self.may_end(written_all([letter] * 3), [letter] * 3)

    def test_a_long_road(self):
        letters = [PARTS, PIECES, TELL, ASK, EMPTY, ("deep", (), nested(6, ("length", "x" * 400)))] * 38
        road = written_all(letters)
        self.assertLess(25000, len(road))
        self.assertLess(len(road), 30000)
        self.assertEqual(read_all(road), letters)

    def test_as_deep_as_a_book_may_allow(self):
        book = (8, 12, 40, 12, 400, 1000, 20)
        letter = ("deep", (), nested(20, ("length", "x")))
        self.may_end(written(letter, book), [letter], book)
        road = written(("deep", (), nested(20, ("parts", ()))), book)
        at = road.index("-")
        self.refused(road[:at] + "+", at, book)
        for size in (at - 3, at, at + 4):
            self.cut(road[:size], book)


class Endings(Reading):
    def test_a_rest_is_whole_at_the_finish_alone(self):
        for text in ("", "a", "ask;\n;\n", "x" * 400):
            letter = ("tell", (), ("rest", text))
            reader = fed("ask;\n;\n" + written(letter))
            self.assertEqual((reader.letters(), reader.may_end(), reader.awaited()), ([ASK], True, ""))
            self.assertEqual(reader.in_hand(), len(written(letter)))
            reader.finish()
            self.assertEqual(reader.letters(), [ASK, letter])

    def test_no_letter_behind_a_rest(self):
        self.assertEqual(read_all(written(BARE_REST) + written(ASK)), [("tell", (), ("rest", "ask;\n;\n"))])
        road = written(("tell", (), ("rest", "x" * 400)))
        self.refused(road + "a", len(road))
        self.refused(road + written(ASK), len(road))
        self.refused("tell;\nrest: yes;\n;\na", 19, (8, 12, 40, 12, 0, 12, 6))

    def test_letters_stay_behind_a_finish(self):
        for letters in ([], [ASK], [TELL, REST], [BARE_REST]):
            reader = fed(written_all(letters))
            reader.finish()
            for call in (reader.finish, lambda: reader.feed("ask;\n;\n"), lambda: reader.feed("~"), reader.finish):
                try:
                    call()
                except FrameError:
                    pass
                self.assertEqual(reader.letters(), letters)

    def test_cut_at_each_place(self):
        road = written_all([TELL, PIECES, PARTS, EMPTY, ASK, REST])
        may_end = [len(written_all([TELL, PIECES, PARTS, EMPTY, ASK][:count])) for count in range(6)]
        may_end += range(may_end[-1] + len("tell;\nn: v;\nrest: yes;\n;\n"), len(road) + 1)
        for at in range(len(road) + 1):
            if at in may_end:
                self.may_end(road[:at], plain_reading(road[:at], USUAL))
            else:
                self.cut(road[:at])

    def test_a_road_cut_may_go_on(self):
        reader = fed("ask;\n")
        for number in range(2):
            with self.assertRaises(Cut) as caught:
                reader.finish()
            self.assertEqual(caught.exception.at, 5)
        reader.feed(";\n")
        self.assertEqual(reader.letters(), [ASK])

    def test_awaited_changes_nothing(self):
        for road in ("a", "ask;\nlength: 3", "ask;\nparts: yes;\n;\n+", "ask;\npieces: yes;\n;\n3;\na"):
            reader = fed(road)
            before = (reader.letters(), reader.in_hand(), reader.may_end(), reader.awaited())
            for number in range(3):
                self.assertEqual((reader.letters(), reader.in_hand(), reader.may_end(), reader.awaited()), before)
            reader.feed(reader.awaited())
            self.assertEqual((len(reader.letters()), reader.in_hand()), (1, 0))


class Refusals(Reading):
    def test_signs_that_may_not_come(self):
        pieces, parts = rows("ask", "pieces: yes", ""), rows("ask", "parts: yes", "")
        told = (
            ("", "A1; \n~:+-0"), ("ask", "K1: \n"), ("abcdefgh", "i"), ("ask;", "a; "), (rows("ask"), " \nA:1+-"),
            (rows("ask") + ";", "a; "), (rows("ask") + "to", " ;\nO1"), (rows("ask") + "to:", "b:;\n"),
            (rows("ask") + "to: ", " ;\n"), (rows("ask") + "to: b ", ";\n"), (rows("ask") + "to: b", "\n"),
            (rows("ask") + "to: b;", ";a "), (rows("ask") + "abcdefuvwxyz", "a "), (rows("ask") + "n: " + "v" * 40, "v "),
            (rows("ask") + "n: " + "v" * 39, " "), (rows("ask", *("n: v",) * 12), "n"),
            (rows("ask") + "length: ", ";a-+ \n"), (rows("ask") + "length: 0", "01a"), (rows("ask") + "length: 40", "19"),
            (rows("ask") + "rest: ", "nY "), (rows("ask") + "rest: yes", "x \n"), (rows("ask", "pieces: yes"), "nlpr\n"),
            (rows("ask", "length: 0"), "nlpr\n"), (rows("ask", "length: 1", "") + "a", ";A\n"), (rows("ask", ""), "A;\n"),
            (pieces, "A;+-\n g"), (pieces + "0", "01a"), (pieces + "19", "1f"), (pieces + "1", "A:\n"),
            (pieces + rows("1") + "a", "a\n0"), (pieces + rows("190", "x" * 400), "1"), (pieces + rows("0") + "rest", ": ;"),
            (parts, ";a0 \n"), (parts + "+", "+-a\n"), (parts + rows("+") + "rest", ": ;"), (parts + rows("+", ""), ";an\n"),
            (parts + rows("+", "") * 12, "+"), (parts + rows("+", "parts: yes", "") * 6, "+"), (parts + "-", "-+\n"),
        )
        for ahead, signs in told:
            for sign in signs:
                self.refused(ahead + sign, len(ahead))
                self.refused(written(TELL) + ahead + sign + "ask;\n;\n", len(written(TELL) + ahead))

    def test_the_number_counts_over_all_letters(self):
        ahead = written_all([TELL, PIECES, PARTS])
        reader = Reader()
        self.assertEqual(fed_by(reader, [ahead, "ask;\n", "to: bob;\nTo"]), len(ahead) + 14)
        self.assertEqual((reader.letters(), reader.in_hand()), ([TELL, PIECES, PARTS], 14))

    def test_the_signs_ahead_in_the_piece_are_taken_in(self):
        reader = Reader()
        self.assertEqual(fed_by(reader, ["ask;\n;\ntell;\nlength: 1;\n;\nxask;\n\n"]), 32)
        self.assertEqual((reader.letters(), reader.in_hand()), ([ASK, ("tell", (), ("length", "x"))], 5))

    def test_a_refusal_is_a_frame_error_and_no_cut(self):
        with self.assertRaises(FrameError):
            read_all("A")
        with self.assertRaises(FrameError):
            read_all("a")
        self.refused("askA", 3)


class Places(Reading):
    """At each place each sign, held against readings of whole roads."""

    def look_at(self, road, book):
        """Whether each sign is refused behind this road just where no road begins so."""
        for sign in TRY_SIGNS:
            longer = road + sign
            reader = Reader(book)
            at = fed_by(reader, [longer])
            if at is None:
                self.assertIsNotNone(plain_reading(longer + reader.awaited(), book), repr(longer))
            else:
                self.assertEqual(at, len(road), repr(longer))
                self.assertEqual([tail for tail in TAILS if plain_reading(longer + tail, book) is not None], [],
                                 repr(longer))

    def test_along_roads_of_small_books(self):
        looked = {}
        for book in SMALL_BOOKS:
            maker = Maker(book, 11)
            for number in range(2):
                road = written_all(maker.letters(2), book)[:40]
                looked.update({(road[:at], book): True for at in range(len(road) + 1)})
        for road, book in looked:
            self.look_at(road, book)

    def test_along_a_road_of_each_sort_of_body(self):
        book = (3, 4, 2, 2, 10, 3, 2)
        letters = ([("ask", (("res", "a"),), ("length", "xy"))], [("a", (), ("pieces", ("x", ";\n"), (("n", "v"),)))],
                   [("a", (), ("parts", (((("n", "v"),), NONE), ((), nested(1)))))], [("a", (("n", "v"),) * 2, ("rest", "xy"))])
        for some in letters:
            road = written_all(some, book)
            for at in range(len(road) + 1):
                self.look_at(road[:at], book)

    def test_roads_with_one_sign_amiss(self):
        for seed, book in enumerate(SMALL_BOOKS + (USUAL,)):
            maker = Maker(book, seed)
            for number in range(8):
                road = written_all(maker.letters(3), book)[:400]
                for amiss in roads_amiss(maker.chance, road, 12):
                    self.same_however_cut(amiss, book)

    def same_however_cut(self, road, book):
        told = []
        for pieces in all_cuts(road):
            reader = Reader(book)
            at = fed_by(reader, pieces)
            told.append((at, reader.letters(), reader.in_hand(), reader.may_end()))
        self.assertEqual(told, [told[0]] * len(told), repr(road))
        at, letters, held, may_end = told[0]
        plainly = plain_reading(road, book)
        self.assertIs(may_end, plainly is not None, repr(road))
        if may_end:
            self.assertEqual(read_all(road, book), plainly)
        elif at is None:
            self.cut(road, book)
        else:
            self.assertEqual(plain_reading(road[:at - held], book), letters)


class WrittenAndRead(Reading):
    """Promise 5, of the strict reader and the writer."""

    def there_and_back(self, letters, book):
        road = written_all(letters, book)
        self.assertEqual(read_all(road, book), letters, repr((road, book)))
        self.assertEqual(written_all(read_all(road, book), book), road)

    def test_letters_of_many_sorts(self):
        for seed in range(60):
            for book in SMALL_BOOKS + (USUAL,):
                letters = Maker(book, seed).letters(3)
                self.assertTrue(all(keeps(letter, book) for letter in letters))
                self.there_and_back(letters, book)

    def test_the_edges_of_the_usual_book(self):
        full = fields(12)
        for letter in (("abcdwxyz", full, NONE), ("a", (("abcdefuvwxyz", "v" * 40),), ("length", "x" * 400)),
                       ("a", full, ("rest", "x" * 400)), ("a", full[:6], ("pieces", ("x",) * 400, full[:6])),
                       ("a", full, ("pieces", ("x" * 400,), ())), ("a", (), ("pieces", (), full)),
                       ("a", full, ("parts", ((full, NONE),) * 12)), ("a", full, nested(6, ("length", "x" * 400))),
                       ("rest", (("n", "a" + " " * 38 + "a"),), NONE), ("length", (), nested(6, ("parts", ())))):
            self.there_and_back([letter], USUAL)
            if letter[2][0] != "rest":
                self.there_and_back([letter, ASK, letter], USUAL)

    def test_bounds_of_nought_and_one(self):
        least = (1, 1, 1, 0, 0, 0, 0)
        for body in (NONE, ("length", ""), ("pieces", (), ()), ("parts", ()), ("rest", "")):
            self.there_and_back([("a", (), NONE), ("z", (), body)], least)
        for road, at in (("aa", 1), ("a;\nn", 3), ("a;\nlength: 1", 11), ("a;\npieces: yes;\n;\n1", 18),
                         ("a;\nparts: yes;\n;\n+", 17), ("a;\nrest: yes;\n;\nx", 16)):
            self.refused(road, at, least)
        one = (1, 1, 1, 1, 1, 1, 1)
        for own, trail in (((), fields(1)), (fields(1), ())):
            self.there_and_back([("a", own, ("pieces", ("x",), trail))], one)
        self.there_and_back([("a", fields(1), ("parts", ((fields(1), ("parts", ())),))), ("b", (), ("rest", "x"))], one)
        for road, at in (("a;\nn: v;\nn", 9), ("a;\nn: vv", 7), ("a;\nnn", 4), ("a;\nlength: 2", 11),
                         ("a;\npieces: yes;\n;\n1;\nx;\n1", 24), ("a;\nn: v;\npieces: yes;\n;\n0;\nn", 27),
                         ("a;\nparts: yes;\n;\n+;\n;\n+", 22), ("a;\nparts: yes;\n;\n+;\nparts: yes;\n;\n+", 34),
                         ("a;\nrest: yes;\n;\nxx", 17)):
            self.refused(road, at, one)

    def test_the_greatest_book(self):
        book = (1000, 1000, 1000, 1000, 1000, 1000, 20)
        for letter in (("w" * 1000, (("n" * 1000, "v" * 1000),), ("length", "x" * 1000)),
                       ("a", fields(1000), NONE), ("a", (), ("parts", (((), NONE),) * 1000)),
                       ("a", (), ("pieces", ("x",) * 1000, fields(1000)))):
            self.there_and_back([letter], book)


class Books(Reading):
    def test_left_out_none_and_usual_are_alike(self):
        roads = [written_all(letters) for letters in LISTS]
        roads += ["abcdefghi;\n;\n", "ask;\n" + rows(*("n: v",) * 13, ""), "ask;\nlength: 401;\n", "ask;\n", "a", "A"]
        for road in roads:
            told = []
            for book in ((), (None,), (USUAL,)):
                reader = Reader(*book)
                told.append([fed_by(reader, [road]), reader.letters(), reader.in_hand(), reader.may_end()])
                try:
                    told[-1].append(read_all(road, *book))
                except (Refused, Cut) as refusal:
                    told[-1].append((type(refusal), refusal.at))
            self.assertEqual(told, [told[0]] * 3)
        self.assertEqual(read_all("ask;\n;\n", book=USUAL), [ASK])
        self.assertEqual(Reader(book=None).letters(), [])

    def test_each_number_of_a_book_counts(self):
        letter = ("tell", (("to", "bob"),), ("parts", (((("n", "v"),), ("length", "hi")), ((), nested(1)))))
        book = (4, 2, 3, 1, 2, 3, 2)
        road = written(letter, book)
        self.assertEqual(read_all(road, book), [letter])
        places = (3, 7, 12, 6, road.index("length: ") + 8, road.rindex("+"), road.rindex("+"))
        for place, at in enumerate(places):
            smaller = tuple(number - (other == place) for other, number in enumerate(book))
            self.refused(road, at, smaller)


if __name__ == "__main__":
    unittest.main()
