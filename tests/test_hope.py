"""Promise 20: what a beginning of a road is worth."""

import unittest

from framepost.hope import verdict
from framepost.reader import read_all
from framepost.signs import USUAL
from framepost.writer import written, written_all
from helper import ASK, BARE_REST, EMPTY, LISTS, NONE, PARTS, PIECES, REST, SMALL_BOOKS, TAILS, TELL, TRY_SIGNS, Maker
from helper import fields, nested, plain_reading, roads_amiss, rows

WHOLE = ("whole",)
LEAST = (1, 1, 1, 0, 0, 0, 0)
ONE = (1, 1, 1, 1, 1, 1, 1)


class Hoping(unittest.TestCase):
    def hopeful(self, road, letters, book=None):
        """That a road is hopeful behind so many letters, and its text finishes just the letter in hand."""
        told = verdict(road, book)
        self.assertEqual((type(told), len(told), told[0]), (tuple, 2, "hopeful"), repr((road, told)))
        self.assertIsInstance(told[1], str)
        limits = USUAL if book is None else book
        self.assertIsNone(plain_reading(road, limits), repr(road))
        self.assertEqual(verdict(road + told[1], book), WHOLE, repr((road, told)))
        whole = plain_reading(road + told[1], limits)
        self.assertEqual(len(whole), letters + 1, repr((road, told)))
        self.assertEqual(read_all(road + told[1], book), whole)

    def hopeless(self, road, at, book=None):
        """That a road is hopeless from this sign on: so is all that is longer, and nothing that is shorter."""
        for longer in (road[:at + 1], road, road + "a", road + ";\n;\n", road + "-;\n-;\n", road + "x" * 30):
            self.assertEqual(verdict(longer, book), ("hopeless", at), repr(longer))
        self.assertNotEqual(verdict(road[:at], book)[0], "hopeless", repr(road))

    def look_along(self, letters, book=None):
        """The verdict at each place of the road of these letters."""
        ends = {len(written_all(letters[:count], book)): count for count in range(len(letters) + 1)}
        if letters and letters[-1][2][0] == "rest":
            last = max(ends)
            body = last - len(letters[-1][2][1])
            ends.update({at: len(letters) for at in range(body, last + 1)})
        road = written_all(letters, book)
        count = 0
        for at in range(len(road) + 1):
            if at in ends:
                self.assertEqual(verdict(road[:at], book), WHOLE, repr(road[:at]))
                count = ends[at]
            else:
                self.hopeful(road[:at], count, book)


class Verdicts(Hoping):
    def test_the_road_without_signs(self):
        for book in SMALL_BOOKS + (USUAL, None):
            self.assertEqual(verdict("", book), WHOLE)
        self.assertEqual(verdict(""), WHOLE)

    def test_whole_letters(self):
        for letters in LISTS:
            self.assertEqual(verdict(written_all(letters)), WHOLE)

    def test_each_sort_of_body_cut_at_every_place(self):
        for letters in ([ASK, ASK], [TELL], [EMPTY], [PIECES], [PARTS], [REST], [BARE_REST],
                        [TELL, PIECES, PARTS, EMPTY, ASK, REST], [("a", (), ("pieces", (), ())), ASK],
                        [("a", (), ("pieces", ("x" * 300, "y" * 100), ()))],
                        [("deep", (), nested(6, ("length", "x")))]):
            self.look_along(letters)

    def test_small_books_cut_at_every_place(self):
        for book in SMALL_BOOKS:
            for seed in range(6):
                self.look_along(Maker(book, seed).letters(2), book)

    def test_bounds_of_nought_and_one(self):
        for body in (NONE, ("length", ""), ("pieces", (), ()), ("parts", ()), ("rest", "")):
            self.look_along([("a", (), body)], LEAST)
        for road, at in (("aa", 1), ("a;\nn", 3), ("a;\nlength: 1", 11), ("a;\npieces: yes;\n;\n1", 18),
                         ("a;\nparts: yes;\n;\n+", 17), ("a;\nrest: yes;\n;\nx", 16), ("a;\nlength: 00", 12)):
            self.hopeless(road, at, LEAST)
        for letter in (("a", fields(1), ("pieces", ("x",), ())), ("a", (), ("pieces", ("x",), fields(1))),
                       ("a", fields(1), ("parts", ((fields(1), ("parts", ())),))), ("b", (), ("rest", "x"))):
            self.look_along([letter], ONE)
        for road, at in (("a;\nn: v;\nn", 9), ("a;\nn: vv", 7), ("a;\nnn", 4), ("a;\nlength: 2", 11),
                         ("a;\npieces: yes;\n;\n1;\nx;\n1", 24), ("a;\nn: v;\npieces: yes;\n;\n0;\nn", 27),
                         ("a;\nparts: yes;\n;\n+;\n;\n+", 22), ("a;\nparts: yes;\n;\n+;\nparts: yes;\n;\n+", 34)):
            self.hopeless(road, at, ONE)

    def test_a_rest_in_its_body(self):
        head = "tell;\nrest: yes;\n;\n"
        for text in ("", "a", ";\n;\n", "ask;\n;\n", "x" * 400):
            self.assertEqual(verdict(head + text), WHOLE)
            self.assertEqual(verdict(written(ASK) + head + text), WHOLE)
        self.assertEqual(verdict(head + "x" * 401), ("hopeless", len(head) + 400))
        self.assertEqual(verdict(head + "x" * 500), ("hopeless", len(head) + 400))
        for at in range(1, len(head)):
            self.hopeful(head[:at], 0)

    def test_signs_behind_which_no_letter_can_come(self):
        pieces, parts = rows("ask", "pieces: yes", ""), rows("ask", "parts: yes", "")
        for ahead, signs in (
                ("", "A1; \n:+-"), ("ask", "K: \n"), ("abcdefgh", "i"), (rows("ask") + "to:", "b;"),
                (rows("ask") + "n: " + "v" * 39, " "), (rows("ask", *("n: v",) * 12), "na"),
                (rows("ask") + "length: 40", "19"), (rows("ask", "length: 0"), "nl"), (pieces + "19", "1f"),
                (pieces + rows("0") + "rest", ": ;"), (parts + rows("+") + "rest", ":;"),
                             (parts + rows("+", "") * 12, "+"),
                (parts + rows("+", "parts: yes", "") * 6, "+")):
            for sign in signs:
                self.hopeless(ahead + sign, len(ahead))
                self.hopeless(written(TELL) + ahead + sign, len(written(TELL) + ahead))

    def test_names_that_can_only_be_end_names(self):
        four = (1, 4, 1, 1, 2, 3, 2)
        self.hopeful("a;\nrest", 0, four)
        self.hopeless("a;\nparts: yes;\n;\n+;\nrest", 23, four)
        self.hopeful("a;\nparts: yes;\n;\n+;\nres", 0, four)
        self.hopeful("a;\nn: v;\nres", 0, four)
        self.hopeless("a;\nn: v;\nra", 10, four)


class Amiss(Hoping):
    def test_one_sign_amiss(self):
        for seed, book in enumerate(SMALL_BOOKS + (USUAL,)):
            maker = Maker(book, seed + 40)
            for number in range(6):
                letters = maker.letters(3)
                for road in roads_amiss(maker.chance, written_all(letters, book)[:300], 12):
                    self.look_at_end(road, book)

    def look_at_end(self, road, book):
        told = verdict(road, book)
        plainly = plain_reading(road, book)
        self.assertIs(told == WHOLE, plainly is not None, repr(road))
        if told[0] == "hopeless":
            self.hopeless(road, told[1], book)
        elif told != WHOLE:
            ahead = [plain_reading(road[:at], book) for at in range(len(road) + 1)]
            self.hopeful(road, max(len(letters) for letters in ahead if letters is not None), book)

    def test_hopeless_at_the_very_first_sign(self):
        """Held against readings of whole roads: nothing hopeful has an ending here, nor has a hopeless one."""
        places = {}
        for book in SMALL_BOOKS[:5]:
            maker = Maker(book, 77)
            road = written_all(maker.letters(2), book)[:45]
            places.update({(road[:at], book): True for at in range(len(road) + 1)})
        for road, book in places:
            for sign in TRY_SIGNS:
                told = verdict(road + sign, book)
                endings = [tail for tail in TAILS if plain_reading(road + sign + tail, book) is not None]
                if endings:
                    self.assertNotEqual(told[0], "hopeless", repr((road + sign, endings[0])))
                if told[0] == "hopeless":
                    self.assertEqual(told[1], len(road), repr(road + sign))
                elif told[0] == "hopeful":
                    self.assertIsNotNone(plain_reading(road + sign + told[1], book), repr(road + sign))


class Books(Hoping):
    def test_left_out_none_and_usual_are_alike(self):
        for road in ("", "ask", "abcdefghi", "ask;\n;\n", "ask;\nlength: 401", rows("ask", *("n: v",) * 13)):
            self.assertEqual(verdict(road), verdict(road, USUAL))
            self.assertEqual(verdict(road, None), verdict(road, book=USUAL))
        self.assertEqual(verdict("abcdefghi"), ("hopeless", 8))
        self.assertEqual(verdict("abcdefgh;\n;\n"), WHOLE)

    def test_each_number_of_a_book_counts(self):
        letter = ("tell", (("to", "bob"),), ("parts", (((("n", "v"),), ("length", "hi")), ((), nested(1)))))
        book = (4, 2, 3, 1, 2, 3, 2)
        road = written(letter, book)
        self.assertEqual(verdict(road, book), WHOLE)
        places = (3, 7, 12, 6, road.index("length: ") + 8, road.rindex("+"), road.rindex("+"))
        for place, at in enumerate(places):
            self.hopeless(road, at, tuple(number - (other == place) for other, number in enumerate(book)))

    def test_a_verdict_changes_no_other(self):
        for number in range(2):
            self.assertEqual(verdict("A"), ("hopeless", 0))
            self.assertEqual(verdict("ask;\n;\n"), WHOLE)
            self.assertEqual(verdict("ask;\n")[0], "hopeful")


if __name__ == "__main__":
    unittest.main()
