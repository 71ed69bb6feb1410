"""Promise 5 over the whole program, and promises 2 and 4, which hold everywhere in it."""

import importlib
import inspect
import itertools
import unittest

from framepost.errors import Cut, FrameError, Refused
from framepost.hope import verdict
from framepost.lax import SWITCHES, parting, read_lax
from framepost.letters import keeps
from framepost.posts import Post, turned
from framepost.reader import Reader, read_all
from framepost.signs import END_NAMES, USUAL
from framepost.writer import written, written_all
from helper import LISTS, NONE, PIECES, SMALL_BOOKS, Maker, all_cuts, plain_reading, roads_amiss

SETS = [some for count in range(7) for some in itertools.combinations(SWITCHES, count)]
BOOKS = SMALL_BOOKS + (USUAL, (3, 2, 5, 3, 9, 3, 3))
RULES = ([], [("length",)], [("pieces", 2)], [("put", "a", "b"), ("drop", "n"), ("length",)])


def some_roads(seed):
    """Roads of each book, good ones and such with a sign amiss, none too long."""
    for book in BOOKS:
        maker = Maker(book, seed)
        for number in range(3):
            road = written_all(maker.letters(3), book)[:250]
            for some in [road] + roads_amiss(maker.chance, road, 3):
                yield some, book


class TheWhole(unittest.TestCase):
    def test_the_same_letters_and_the_same_sign_however_the_road_is_cut(self):
        for road, book in some_roads(101):
            told = []
            for pieces in all_cuts(road):
                reader, at = Reader(book), None
                try:
                    for piece in pieces:
                        reader.feed(piece)
                    reader.finish()
                except (Refused, Cut) as refusal:
                    at = (type(refusal), refusal.at)
                told.append((at, reader.letters()))
            self.assertEqual(told, [told[0]] * len(told), repr(road))
            self.assertIs(told[0][0] is None, plain_reading(road, book) is not None, repr(road))

    def test_each_beginning_is_whole_or_hopeful_or_hopeless(self):
        for road, book in some_roads(102):
            reader, refused = Reader(book), None
            for at in range(len(road) + 1):
                told = verdict(road[:at], book)
                if refused is not None:
                    self.assertEqual(told, ("hopeless", refused))
                elif reader.may_end():
                    self.assertEqual(told, ("whole",))
                    self.assertIsNotNone(plain_reading(road[:at], book))
                else:
                    self.assertEqual(told[0], "hopeful")
                    self.assertIsNone(plain_reading(road[:at], book))
                    whole = plain_reading(road[:at] + told[1], book)
                    self.assertEqual(len(whole), len(reader.letters()) + 1, repr((road[:at], told)))
                try:
                    reader.feed(road[at:at + 1])
                except Refused as refusal:
                    refused = refusal.at
                    self.assertLessEqual(refused, at)

    def test_what_is_read_written_again_is_the_road(self):
        for road, book in some_roads(103):
            try:
                letters = read_all(road, book)
            except FrameError:
                continue
            self.assertTrue(all(keeps(letter, book) for letter in letters), repr(road))
            self.assertEqual(written_all(letters, book), road)

    def test_what_is_written_is_read_by_each_reader_as_the_same_letters(self):
        for seed in range(5):
            for book in BOOKS:
                letters = Maker(book, seed + 110).letters(3)
                road = written_all(letters, book)
                self.assertEqual(read_all(road, book), letters)
                for some in SETS:
                    self.assertEqual(read_lax(some, road, book), letters, repr((some, road)))

    def test_unlike_letters_are_written_unlike(self):
        seen = {}
        for book in BOOKS:
            for seed in range(40):
                letters = Maker(book, seed).letters(2)
                road = written_all(letters, book)
                self.assertEqual(seen.setdefault(road, letters), letters)
        self.assertGreater(len(seen), 200)
        near = [("a", (), NONE), ("a", (), ("length", "")), ("a", (), ("rest", "")), ("a", (), ("pieces", (), ())),
                ("a", (), ("parts", ())),
                ("a", (), ("pieces", ("x", "y"), ())), ("a", (), ("pieces", ("xy",), ())), ("a", (), ("length", "xy")),
                ("a", (), ("rest", "xy")),
                ("a", (("n", "v"),), ("pieces", (), ())), ("a", (), ("pieces", (), (("n", "v"),))),
                ("a", (("n", "v: w"),), NONE),
                ("a", (), ("parts", (((), NONE),))), ("a", (), ("parts", (((), ("parts", ())),))),
                ("a", (), ("parts", (((), NONE), ((), NONE))))]
        self.assertEqual(len({written(letter) for letter in near}), len(near))

    def test_no_two_readers_part_over_what_a_post_hands_on(self):
        for road, book in some_roads(104):
            rules = [rule for rule in RULES[len(road) % 4] if rule[0] != "put" or book[2] > 0]
            post = Post(rules, book)
            handed = post.fed(road) + post.ended()
            letters = read_all(handed, book)
            self.assertEqual(written_all(letters, book), handed)
            for some in SETS:
                self.assertEqual(read_lax(some, handed, book), letters, repr((some, handed)))

    def test_for_each_laxness_a_road_is_told_over_which_readers_part(self):
        for switch in SWITCHES:
            self.assertEqual(verdict(parting(switch))[0], "hopeless")
            for some in SETS:
                if switch in some:
                    self.assertNotEqual(read_lax(some, parting(switch)), [])

    def test_a_post_hands_on_just_the_letters_that_it_read(self):
        for road, book in some_roads(105):
            for rules in RULES:
                handed, faults = [], []
                for pieces in all_cuts(road):
                    post, second = Post(rules, book), Post(rules, book)
                    told = [post.fed(piece) for piece in pieces] + [post.ended()]
                    again = [second.fed(text) for text in told] + [second.ended()]
                    self.assertEqual("".join(again), "".join(told))
                    self.assertIsNone(second.fault())
                    handed.append("".join(told))
                    faults.append(post.fault())
                self.assertEqual((handed, faults), ([handed[0]] * len(handed), [faults[0]] * len(faults)), repr(road))
                self.assertEqual(handed[0], self.read_and_turned(road, rules, book))

    def read_and_turned(self, road, rules, book):
        reader = Reader(book)
        try:
            reader.feed(road)
            reader.finish()
        except (Refused, Cut):
            pass
        return "".join(written(turned(letter, rules, book), book) for letter in reader.letters())


class Interface(unittest.TestCase):
    """The names and arguments as the document tells them."""

    CALLS = {
        "signs": {"is_small": "(sign)", "is_plain": "(sign)", "figures_of": "(number, base)"},
        "letters": {"keeps": "(letter, book=None)"},
        "writer": {"written": "(letter, book=None)", "written_all": "(letters, book=None)"},
        "marks": {"Exact": "(text)", "RowEnd": "()", "Number": "(base, most)", "Word": "(most)",
                  "Name": "(most, room, ends)",
                  "Value": "(most)"},
        "fields": {"Fields": "(book, room, ends)"},
        "bodies": {"Tally": "(parts)", "body_of": "(end, book, room, deep, tally)"},
        "reader": {"Reader": "(book=None)", "read_all": "(road, book=None)"},
        "hope": {"verdict": "(road, book=None)"},
        "posts": {"Post": "(rules, book=None)", "turned": "(letter, rules, book=None)"},
        "lax": {"read_lax": "(switches, road, book=None)", "parting": "(switch)"},
        "desk": {"Desk": "()"},
    }
    MARK = {"fed": "(self, sign)", "good": "(self)", "awaited": "(self)", "told": "(self)"}
    METHODS = {
        "marks": dict.fromkeys(("Exact", "RowEnd", "Number", "Word", "Name", "Value"), MARK),
        "fields": {"Fields": {"fed": "(self, sign)", "whole": "(self)", "awaited": "(self)", "told": "(self)",
                              "told_end": "(self)",
                              "room_left": "(self)"}},
        "bodies": {"Body": {"fed": "(self, sign)", "whole": "(self)", "is_open": "(self)", "awaited": "(self)",
                            "told": "(self)"}},
        "reader": {"Reader": {"feed": "(self, text)", "letters": "(self)", "in_hand": "(self)", "may_end": "(self)",
                              "awaited": "(self)",
                              "finish": "(self)"}},
        "posts": {"Post": {"fed": "(self, text)", "ended": "(self)", "fault": "(self)"}},
        "desk": {"Desk": {"say": "(self, row)"}},
    }

    def test_calls(self):
        for module, calls in self.CALLS.items():
            held = importlib.import_module("framepost." + module)
            for name, arguments in calls.items():
                self.assertEqual(str(inspect.signature(getattr(held, name))), arguments, name)

    def test_methods(self):
        for module, classes in self.METHODS.items():
            held = importlib.import_module("framepost." + module)
            for name, methods in classes.items():
                for method, arguments in methods.items():
                    told = inspect.signature(getattr(getattr(held, name), method))
                    self.assertEqual(str(told), arguments, (name, method))

    def test_values(self):
        self.assertEqual(USUAL, (8, 12, 40, 12, 400, 12, 6))
        self.assertEqual(END_NAMES, ("length", "pieces", "parts", "rest"))
        self.assertEqual(SWITCHES, ("bare", "blanks", "great", "behind", "first", "last"))


class HandedIn(unittest.TestCase):
    """Nothing that is handed in is changed, and each list that is told is a new one."""

    def test_lists_handed_in_stay(self):
        letters, rules, switches = [PIECES, PIECES], [("put", "n", "v"), ("length",)], ["last", "bare", "last"]
        kept = (list(letters), list(rules), list(switches))
        road = written_all(letters)
        post = Post(rules)
        post.fed(road)
        post.ended()
        turned(PIECES, rules)
        read_lax(switches, road)
        self.assertEqual((letters, rules, switches), kept)

    def test_lists_told_are_new_ones(self):
        for letters in LISTS:
            road = written_all(letters)
            for ask in (lambda: read_all(road), lambda: read_lax(["bare"], road)):
                told = ask()
                told.append("more")
                self.assertEqual(ask(), letters)

    def test_what_is_asked_twice_is_told_twice(self):
        for road, book in some_roads(106):
            self.assertEqual(verdict(road, book), verdict(road, book))
        for switch in SWITCHES:
            self.assertEqual(parting(switch), parting(switch))


if __name__ == "__main__":
    unittest.main()
