"""Promises 24, 25 and 26: lax readers."""

import itertools
import re
import unittest

from framepost.errors import FrameError, Refused, Unread
from framepost.lax import SWITCHES, parting, read_lax
from framepost.letters import keeps
from framepost.posts import Post
from framepost.reader import read_all
from framepost.signs import END_NAMES, USUAL, figures_of
from framepost.writer import written_all
from helper import ASK, LISTS, NONE, PIECES, SMALL_BOOKS, TELL, Maker, fields, nested, plain_reading, roads_amiss, rows

SETS = [tuple(some) for count in range(7) for some in itertools.combinations(SWITCHES, count)]
KEY = ("a", (("n", "v"),), NONE)


def with_switch(*switches):
    return [some for some in SETS if set(switches) <= set(some)]


def without(*switches):
    return [some for some in SETS if not set(switches) & set(some)]


class Unreadable(Exception):
    pass


class Glance:
    """A lax reading of a road by patterns, told once more and otherwise than in the package."""

    def __init__(self, switches, road, book):
        self.switches, self.road, self.book, self.at = set(switches), road, book, 0
        end = ";?\n" if "bare" in switches else ";\n"
        letters = "[A-Za-z]+" if "great" in switches else "[a-z]+"
        blanks, gap = (" *", " *") if "blanks" in switches else ("", " ")
        self.word = f"({letters}){end}"
        self.field = f"{blanks}({letters}){blanks}:{gap}([^;\n]+?){blanks}{end}"
        self.size = f"(0|[1-9a-f][0-9a-f]*){end}"
        self.part, self.no_part, self.empty = rf"(\+){end}", f"(-){end}", f"(){end}"

    def find(self, pattern):
        match = re.compile(pattern).match(self.road, self.at)
        if match is not None:
            self.at = match.end()
        return match

    def must(self, pattern):
        match = self.find(pattern)
        if match is None:
            raise Unreadable
        return match

    def signs(self, number):
        if self.at + number > len(self.road):
            raise Unreadable
        self.at += number
        return self.road[self.at - number:self.at]

    def head(self, ends):
        told = []
        match = self.find(self.field)
        while match:
            told.append((match[1].lower(), match[2]))
            match = self.find(self.field)
        self.must(self.empty)
        kinds = "".join("e" if name in END_NAMES else "o" for name, value in told)
        many, behind = self.switches & {"first", "last"}, "behind" in self.switches
        shape = ("[oe]*" if behind else "o*e*") if many else ("o*e?o*" if behind else "o*e?")
        told_ends = [pair for pair in told if pair[0] in END_NAMES]
        if not re.fullmatch(shape, kinds) or not all(self.may_stand(pair, ends) for pair in told_ends):
            raise Unreadable
        own = tuple(pair for pair in told if pair[0] not in END_NAMES)
        return own, (told_ends[0 if "first" in self.switches else -1] if told_ends else ("none", ""))

    def may_stand(self, pair, ends):
        if pair[0] != "length":
            return pair[0] in ends and pair[1] == "yes"
        return pair[0] in ends and re.fullmatch("0|[1-9][0-9]*", pair[1]) and int(pair[1]) <= self.book[4]

    def frame(self, ends):
        own, (kind, value) = self.head(ends)
        if kind == "none":
            return own, NONE
        if kind == "length":
            return own, ("length", self.signs(int(value)))
        if kind == "rest":
            return own, ("rest", self.signs(len(self.road) - self.at))
        if kind == "pieces":
            return own, ("pieces", self.pieces(), self.head(())[0])
        parts = []
        while self.find(self.part):
            parts.append(self.frame(("length", "pieces", "parts")))
        self.must(self.no_part)
        return own, ("parts", tuple(parts))

    def pieces(self):
        texts = []
        size = self.must(self.size)[1]
        while size != "0":
            texts.append(self.signs(int(size, 16)))
            self.must(self.empty)
            size = self.must(self.size)[1]
        return tuple(texts)

    def letters(self):
        letters = []
        try:
            while self.at < len(self.road):
                letters.append((self.must(self.word)[1].lower(),) + self.frame(END_NAMES))
        except Unreadable:
            return None
        return letters if all(keeps(letter, self.book) for letter in letters) else None


class LaxPen:
    """Writes letters as some reader with these switches reads them, and lets by what it may."""

    def __init__(self, chance, switches, book):
        self.chance, self.switches, self.book = chance, switches, book

    def may(self, switch):
        return switch in self.switches and self.chance.random() < 0.5

    def end(self):
        return "\n" if self.may("bare") else ";\n"

    def great(self, text):
        return "".join(sign.upper() if self.may("great") else sign for sign in text)

    def blanks(self):
        return " " * self.chance.randrange(4) if self.may("blanks") else ""

    def row(self, name, value):
        gap = "" if self.may("blanks") else " "
        return (self.blanks() + self.great(name) + self.blanks() + ":" + gap + self.blanks() + value
                + self.blanks() + self.end())

    def some_end(self, ends):
        name = self.chance.choice(ends)
        return self.row(name, figures_of(self.chance.randint(0, self.book[4]), 10) if name == "length" else "yes")

    def head(self, own, body, ends):
        told = [self.row(name, value) for name, value in own]
        if body[0] == "none":
            return "".join(told) + self.end()
        counts = self.row(body[0], figures_of(len(body[1]), 10) if body[0] == "length" else "yes")
        others = [self.some_end(ends) for number in range(self.chance.randrange(3))]
        if "first" in self.switches:
            told_ends = [counts] + others
        else:
            told_ends = (others if "last" in self.switches else []) + [counts]
        at = len(told)
        for row in reversed(told_ends):
            if self.may("behind"):
                at = self.chance.randint(0, at)
            told.insert(at, row)
        return "".join(told) + self.end()

    def frame(self, own, body, ends=END_NAMES):
        head = self.head(own, body, ends)
        if body[0] in ("length", "rest"):
            return head + body[1]
        if body[0] == "pieces":
            texts = "".join(figures_of(len(text), 16) + self.end() + text + self.end() for text in body[1])
            return head + texts + "0" + self.end() + self.head(body[2], NONE, ())
        if body[0] == "parts":
            parts = "".join("+" + self.end() + self.frame(*part, END_NAMES[:3]) for part in body[1])
            return head + parts + "-" + self.end()
        return head

    def letter(self, word, own, body):
        return self.great(word) + self.end() + self.frame(own, body)


class Lax(unittest.TestCase):
    def read(self, switches, road, letters, book=None):
        self.assertEqual(read_lax(switches, road, book), letters, repr((switches, road)))

    def unread(self, switches, road, book=None):
        with self.assertRaises(Unread, msg=repr((switches, road))):
            read_lax(switches, road, book)

    def lets_by(self, switch, road, letters, book=None, along=()):
        """That each reader with this switch, and those along with it, reads so what no reader without it reads."""
        self.assertIsNone(plain_reading(road, USUAL if book is None else book))
        for some in SETS:
            if switch not in some:
                self.unread(some, road, book)
            elif set(along) <= set(some):
                self.read(some, road, letters, book)

    def by_none(self, road, book=None):
        for some in SETS:
            self.unread(some, road, book)

    def by_all(self, road, letters, book=None):
        for some in SETS:
            self.read(some, road, letters, book)


class Switches(Lax):
    def test_the_switches(self):
        self.assertEqual(SWITCHES, ("bare", "blanks", "great", "behind", "first", "last"))
        self.assertIs(type(SWITCHES), tuple)

    def test_in_any_order_as_list_and_tuple_and_told_twice(self):
        road = "Ask\n to:Bob\n\nTELL;\nlength: 0;\nn: v;\nparts: yes\n;\n"
        want = [("ask", (("to", "Bob"),), NONE), ("tell", (("n", "v"),), ("length", ""))]
        needed = ("bare", "blanks", "great", "behind", "first")
        for order in itertools.permutations(needed):
            self.read(order, road, want)
            self.read(list(order) + ["last"], road, want)
            self.read(order + order[:2] + ("last", "last"), road, want)
        for left_out in needed:
            self.unread([switch for switch in needed if switch != left_out], road)
        self.unread([], road)
        self.unread((), road)
        self.unread(["bare"] * 5, road)

    def test_what_is_handed_in_stays(self):
        switches = ["great", "bare", "great"]
        told = read_lax(switches, "Ask\n\n")
        self.assertEqual(switches, ["great", "bare", "great"])
        self.assertIs(type(told), list)
        told.clear()
        self.assertEqual(read_lax(switches, "Ask\n\n"), [ASK])

    def test_unread_is_a_frame_error(self):
        self.assertTrue(issubclass(Unread, FrameError))
        self.assertFalse(issubclass(Unread, Refused))

    def test_the_road_without_signs(self):
        self.by_all("", [])

    def test_roads_cut_or_broken(self):
        for road in ("a", "a;", "a;\n", "a;\n;", ";\n", "\n", " ", "a;\nn", "a;\nn: v", "a;\nn: v;\n",
                     "a;\nlength: 2;\n;\nx",
                     "a;\npieces: yes;\n;\n", "a;\npieces: yes;\n;\n1;\nx;\n", "a;\npieces: yes;\n;\n1;\nx;\n0;\n",
                     "a;\nparts: yes;\n;\n", "a;\nparts: yes;\n;\n+;\n", "a;\nparts: yes;\n;\n+;\n;\n", "a;\n;\na",
                     "a1;\n;\n", "a b;\n;\n", "a;;\n;\n", "a;\nn: v;;\n;\n", "a;\nn: v; \n;\n", "a;\n:;\n;\n",
                     "a;\nn: ;\n;\n",
                     "a;\nn v;\n;\n", "a;\nn;\n;\n", "a;\nn1: v;\n;\n", "a;\n: v;\n;\n", "a;\nrest: no;\n;\n",
                     "a;\nlength: x;\n;\n",
                     "a;\nlength: ;\n;\n", "a;\nlength;\n;\n", "a;\nrest;\n;\n", "a;\nrest: ;\n;\n",
                     "a;\nlength: -1;\n;\n", "a;\nlength: 01;\n;\nx", "a;\nlength: 00;\n;\n",
                     "a;\npieces: yes;\n;\n00;\n;\n",
                     "a;\npieces: yes;\n;\n01;\nx;\n0;\n;\n", "a;\npieces: yes;\n;\n;\n;\n",
                     "a;\nparts: yes;\n;\n;\n-;\n",
                     "a;\nparts: yes;\n;\n++;\n;\n-;\n", "a;\nparts: yes;\n;\n--;\n", "a;\n;\n;\n"):
            self.by_none(road)


class Bare(Lax):
    def test_wherever_a_row_end_is_due(self):
        strict = rows("mix", "to: bob", "n: v", "parts: yes", "", "+", "a: b", "length: 2", "") + "hi" + rows(
            "+", "pieces: yes", "", "2", "\n;", "1", "x", "0", "t: u", "", "+", "parts: yes", "", "-", "+", "", "-")
        strict += rows("ask", "rest: yes", "") + "on;\nand\n"
        letters = read_all(strict)
        places = [at for at in range(len(strict) - len("on;\nand\n")) if strict[at:at + 2] == ";\n"]
        self.assertEqual(len(places), 29)
        for at in places:
            self.lets_by("bare", strict[:at] + strict[at + 1:], letters)
        bare = strict
        for at in reversed(places):
            bare = bare[:at] + bare[at + 1:]
        self.lets_by("bare", bare, letters)

    def test_behind_a_piece(self):
        letters = [("a", (), ("pieces", ("x",), ()))]
        self.lets_by("bare", "a;\npieces: yes;\n;\n1;\nx\n0;\n;\n", letters)
        self.lets_by("bare", "a;\npieces: yes;\n;\n1;\n;\n0;\n;\n", [("a", (), ("pieces", (";",), ()))])
        self.lets_by("bare", "a;\npieces: yes;\n;\n1;\n\n\n0;\n;\n", [("a", (), ("pieces", ("\n",), ()))])
        self.by_none("a;\npieces: yes;\n;\n1;\nx0;\n;\n")
        self.by_none("a;\npieces: yes;\n;\n1;\nxy\n0;\n;\n")

    def test_only_the_semicolon_may_lack(self):
        for road in ("a;;\n", "a;", "a;\n;a;\n", "a;\nn: v;n: v;\n;\n", "a;\n;", "a;\n \n", "a\nn: v;;\n\n", "a\n;;\n",
                     "a \n\n"):
            self.by_none(road)
        self.lets_by("bare", "a\n\nb;\n\nc\n;\n", [("a", (), NONE), ("b", (), NONE), ("c", (), NONE)])

    def test_no_row_end_is_due_in_a_text(self):
        self.by_all("a;\nlength: 4;\n;\nx\n\ny", [("a", (), ("length", "x\n\ny"))])
        self.lets_by("bare", "a\nlength: 1\n\n\nb\n\n", [("a", (), ("length", "\n")), ("b", (), NONE)])


class Blanks(Lax):
    def test_around_names_and_values(self):
        for row in ("n:v", " n: v", "n : v", "n:  v", "n: v ", "   n   :   v   ", "n :v", "n:v ", " n:v", " n :v "):
            self.lets_by("blanks", rows("a", row, ""), [KEY])
            self.lets_by("blanks", rows("a", "n: v", row, "n: v", ""), [("a", fields(3), NONE)])
            self.lets_by("blanks", rows("a", "parts: yes", "", "+", row, "", "-"),
                         [("a", (), ("parts", ((fields(1), NONE),)))])
            self.lets_by("blanks", rows("a", "pieces: yes", "", "0", row, ""), [("a", (), ("pieces", (), fields(1)))])
        self.lets_by("blanks", rows("a", " " * 900 + "n" + " " * 900 + ":" + " " * 900 + "v" + " " * 900, ""), [KEY])

    def test_around_the_names_and_values_of_end_rows(self):
        for before, behind, ahead, after in itertools.product(("", " ", "   "), repeat=4):
            if (before, behind, ahead, after) != ("", "", " ", ""):
                def row(name, value):
                    return before + name + behind + ":" + ahead + value + after
                self.lets_by("blanks", rows("a", row("length", "2"), "") + "hi", [("a", (), ("length", "hi"))])
                self.lets_by("blanks", rows("a", row("pieces", "yes"), "", "0", ""), [("a", (), ("pieces", (), ()))])
                self.lets_by("blanks", rows("a", row("rest", "yes"), "") + " x ", [("a", (), ("rest", " x "))])
                self.lets_by("blanks", rows("a", "parts: yes", "", "+", row("parts", "yes"), "", "-", "-"),
                             [("a", (), nested(1, ("parts", ())))])

    def test_in_no_other_row(self):
        for road in (rows(" a", ""), rows("a ", ""), rows("a", " "), rows("a", "   "), rows("a", "n: v", " "),
                     rows("a", "pieces: yes", "", " 0", ""), rows("a", "pieces: yes", "", "0 ", ""),
                     rows("a", "pieces: yes", "", "0", " "), rows("a", "pieces: yes", "", "1", "x ", "0", ""),
                     rows("a", "pieces: yes", "", "1", " x", "0", ""), rows("a", "pieces: yes", "", " 1", "x", "0", ""),
                     rows("a", "parts: yes", "", " -"), rows("a", "parts: yes", "", "- "),
                     rows("a", "parts: yes", "", "+ ", "", "-"),
                     rows("a", "parts: yes", "", "+", " ", "-"), rows("a", "parts: yes", "", " +", "", "-"),
                     rows("a", "parts: yes", " ", "-")):
            self.by_none(road)

    def test_within_they_stay_or_are_refused(self):
        self.by_all(rows("a", "n: v  w", ""), [("a", (("n", "v  w"),), NONE)])
        self.lets_by("blanks", rows("a", "n:  v  w ", ""), [("a", (("n", "v  w"),), NONE)])
        for row in ("n m: v", "n: ", "n:", "n:   ", " : v", ": v", ":", " ", "le ngth: 2", "length: 1 2",
                    "pieces: y es", "n  v"):
            self.by_none(rows("a", row, ""))

    def test_a_colon_in_a_value(self):
        self.by_all(rows("a", "n: :", ""), [("a", (("n", ":"),), NONE)])
        self.lets_by("blanks", rows("a", "n::", ""), [("a", (("n", ":"),), NONE)])
        self.lets_by("blanks", rows("a", "n:: v: ", ""), [("a", (("n", ": v:"),), NONE)])

    def test_with_bare_row_ends(self):
        for some in with_switch("blanks", "bare"):
            self.read(some, "a;\nn:v \n\n", [KEY])
            self.read(some, "a\n n : v\n;\n", [KEY])
        for some in without("blanks") + without("bare"):
            self.unread(some, "a;\nn:v \n\n")


class Great(Lax):
    def test_in_words_names_and_end_names(self):
        for word in ("Ask", "ASK", "asK", "aSk"):
            self.lets_by("great", rows(word, ""), [ASK])
        for name in ("To", "TO", "tO"):
            self.lets_by("great", rows("a", name + ": Bob", ""), [("a", (("to", "Bob"),), NONE)])
            self.lets_by("great", rows("a", "pieces: yes", "", "0", name + ": Bob", ""),
                         [("a", (), ("pieces", (), (("to", "Bob"),)))])
            self.lets_by("great", rows("a", "parts: yes", "", "+", name + ": Bob", "", "-"),
                         [("a", (), ("parts", (((("to", "Bob"),), NONE),)))])
        for change in (str.upper, str.title, str.swapcase):
            self.lets_by("great", rows("a", change("length") + ": 2", "") + "Hi", [("a", (), ("length", "Hi"))])
            self.lets_by("great", rows("a", change("pieces") + ": yes", "", "1", "X", "0", ""),
                         [("a", (), ("pieces", ("X",), ()))])
            self.lets_by("great", rows("a", change("rest") + ": yes", "") + "On", [("a", (), ("rest", "On"))])
            self.lets_by("great", rows("a", "parts: yes", "", "+", change("parts") + ": yes", "", "-", "-"),
                         [("a", (), nested(1, ("parts", ())))])

    def test_from_the_first_great_letter_to_the_last(self):
        self.lets_by("great", rows("AZMB", "QWERTYUIOPAS: AZ", "DFGHJKLZXCVB: QZ", "NM: x", ""),
                     [("azmb", (("qwertyuiopas", "AZ"), ("dfghjklzxcvb", "QZ"), ("nm", "x")), NONE)])
        for sign in "@[`{1_-":
            self.by_none(rows("a" + sign, ""))
            self.by_none(rows("a", "n" + sign + ": v", ""))

    def test_not_in_yes_and_not_in_figures(self):
        for road in (rows("a", "pieces: Yes", "", "0", ""), rows("a", "parts: YES", "", "-"),
                     rows("a", "rest: yeS", ""),
                     rows("a", "pieces: yes", "", "A", "x" * 10, "0", ""),
                     rows("a", "pieces: yes", "", "1F", "x" * 31, "0", "")):
            self.by_none(road)
        self.by_all(rows("a", "pieces: yes", "", "a", "x" * 10, "0", ""), [("a", (), ("pieces", ("x" * 10,), ()))])

    def test_values_and_texts_stay(self):
        letters = [("a", (("n", "Yes B"),), ("pieces", ("ABC",), (("m", "V"),)))]
        self.by_all(written_all(letters), letters)

    def test_an_end_name_in_great_letters_is_no_ordinary_name(self):
        for road in (rows("a", "Rest: no", ""), rows("a", "LENGTH: x", ""),
                     rows("a", "parts: yes", "", "+", "REST: yes", "", "-"),
                     rows("a", "pieces: yes", "", "0", "Length: 0", "")):
            self.by_none(road)


class Behind(Lax):
    def test_fields_behind_the_end_row(self):
        for count in (1, 2, 12):
            self.lets_by("behind", rows("a", "length: 2", *("n: v",) * count, "") + "hi",
                         [("a", fields(count), ("length", "hi"))])
        own = (("a", "1"), ("b", "2"), ("c", "3"))
        for end, body, text in (("length: 1", ("length", "x"), "x"), ("rest: yes", ("rest", "x"), "x"),
                                ("pieces: yes", ("pieces", (), ()), rows("0", "")),
                                ("parts: yes", ("parts", ()), rows("-"))):
            self.lets_by("behind", rows("w", "a: 1", end, "b: 2", "c: 3", "") + text, [("w", own, body)])
            self.by_all(rows("w", "a: 1", "b: 2", "c: 3", end, "") + text, [("w", own, body)])
        self.lets_by("behind", rows("a", "parts: yes", "", "+", "length: 0", "n: v", "", "-"),
                     [("a", (), ("parts", ((fields(1), ("length", "")),)))])

    def test_they_count_for_the_room(self):
        book = (1, 1, 1, 2, 4, 1, 1)
        self.lets_by("behind", rows("a", "n: v", "length: 0", "n: v", ""), [("a", fields(2), ("length", ""))], book)
        self.by_none(rows("a", "n: v", "length: 0", "n: v", "n: v", ""), book)
        self.lets_by("behind", rows("a", "pieces: yes", "n: v", "", "0", "n: v", ""),
                     [("a", fields(1), ("pieces", (), fields(1)))], book)
        self.by_none(rows("a", "pieces: yes", "n: v", "", "0", "n: v", "n: v", ""), book)
        self.by_none(rows("a", "n: v", "pieces: yes", "n: v", "", "0", "n: v", ""), book)
        self.by_none(rows("a", "length: 0", *("n: v",) * 13, ""))

    def test_only_good_fields(self):
        for row in ("n1: v", "n:", "n: ", "abcdefghijklm: v", "n: " + "v" * 41, "n", "yes"):
            self.by_none(rows("a", "length: 0", row, ""))

    def test_it_lets_no_second_end_row_by(self):
        for some in without("first", "last"):
            self.unread(some, rows("a", "length: 0", "n: v", "length: 0", ""))
            self.unread(some, rows("a", "length: 0", "length: 0", ""))


class FirstAndLast(Lax):
    def test_which_one_counts(self):
        road = rows("a", "length: 3", "parts: yes", "") + "-;\n"
        first, last = [("a", (), ("length", "-;\n"))], [("a", (), ("parts", ()))]
        for some in SETS:
            if "first" in some:
                self.read(some, road, first)
            elif "last" in some:
                self.read(some, road, last)
            else:
                self.unread(some, road)

    def test_several_end_rows(self):
        road = rows("a", "n: v", "length: 2", "parts: yes", "length: 400", "rest: yes", "pieces: yes", "length: 2",
                    "") + "hi"
        for some in with_switch("first") + with_switch("last"):
            self.read(some, road, [("a", fields(1), ("length", "hi"))])
        for some in without("first", "last"):
            self.unread(some, road)
        for row, text, body in (("length: 1", "x", ("length", "x")), ("pieces: yes", rows("0", ""), ("pieces", (), ())),
                                ("parts: yes", rows("-"), ("parts", ())), ("rest: yes", "x", ("rest", "x"))):
            for other in ("length: 7", "pieces: yes", "parts: yes", "rest: yes"):
                for some in with_switch("first"):
                    self.read(some, rows("a", row, other, "") + text, [("a", (), body)])
                    self.read(some, rows("a", row, other, other, "") + text, [("a", (), body)])
                for some in set(with_switch("last")) & set(without("first")):
                    self.read(some, rows("a", other, row, "") + text, [("a", (), body)])
                    self.read(some, rows("a", other, other, row, "") + text, [("a", (), body)])

    def test_in_parts(self):
        road = rows("a", "parts: yes", "", "+", "length: 3", "parts: yes", "") + "-;\n" + rows("-")
        for some in with_switch("first"):
            self.read(some, road, [("a", (), ("parts", (((), ("length", "-;\n")),)))])
        for some in set(with_switch("last")) & set(without("first")):
            self.read(some, road, [("a", (), nested(1, ("parts", ())))])
        for some in without("first", "last"):
            self.unread(some, road)

    def test_one_left_out_must_be_one_that_could_stand_there(self):
        for bad in ("length: 401", "length: 01", "length: x", "length:", "pieces: no", "parts: Yes", "rest: yes.",
                    "rest", "length"):
            self.by_none(rows("a", "length: 0", bad, ""))
            self.by_none(rows("a", bad, "length: 0", ""))
        self.by_none(rows("a", "parts: yes", "", "+", "length: 0", "rest: yes", "", "-"))
        self.by_none(rows("a", "parts: yes", "", "+", "rest: yes", "length: 0", "", "-"))
        self.by_none(rows("a", "pieces: yes", "", "0", "length: 0", "length: 0", ""))
        self.by_none(rows("a", "pieces: yes", "", "0", "n: v", "pieces: yes", ""))
        book = (1, 1, 1, 0, 2, 0, 0)
        for some in with_switch("first"):
            self.read(some, rows("a", "length: 0", "length: 2", "parts: yes", ""), [("a", (), ("length", ""))], book)
            self.unread(some, rows("a", "length: 0", "length: 3", ""), book)

    def test_no_field_behind_an_end_row_without_behind(self):
        roads = (rows("a", "length: 0", "n: v", "length: 0", ""), rows("a", "length: 0", "length: 0", "n: v", ""))
        for road in roads:
            for some in SETS:
                if "behind" in some and ("first" in some or "last" in some):
                    self.read(some, road, [("a", fields(1), ("length", ""))])
                else:
                    self.unread(some, road)

    def test_with_the_other_switches(self):
        road = rows("a", " LENGTH:3", "Parts :yes ", "") + "-;\n"
        for some in SETS:
            if {"blanks", "great"} <= set(some) and {"first", "last"} & set(some):
                self.read(some, road, [("a", (), ("length", "-;\n") if "first" in some else ("parts", ()))])
            else:
                self.unread(some, road)

    def test_left_out_end_rows_take_no_room(self):
        book = (1, 1, 1, 1, 4, 1, 1)
        road = rows("a", "n: v", "parts: yes", *("length: 4",) * 9, "parts: yes", "") + rows("-")
        for some in with_switch("first") + with_switch("last"):
            self.read(some, road, [("a", fields(1), ("parts", ()))], book)


class Bounds(Lax):
    """The book's bounds, at each bound and one beyond, in what is read laxly."""

    def bound(self, road, beyond, book, *switches):
        """That the road is read and the other one is not, by each reader with these switches."""
        for some in with_switch(*switches):
            self.assertEqual(read_lax(some, road, book), Glance(some, road, book).letters())
            self.unread(some, beyond, book)

    def test_words_names_and_values(self):
        book = (3, 2, 4, 2, 5, 2, 1)
        self.bound("ABC\n\n", "ABCD\n\n", book, "bare", "great")
        self.bound("ABCDEFGH;\n;\n", "ABCDEFGHI;\n;\n", USUAL, "great")
        self.bound(rows("a", " NM :v", ""), rows("a", " NMO :v", ""), book, "blanks", "great")
        self.bound(rows("a", "abcdefghijkl   :v", ""), rows("a", "abcdefghijklm   :v", ""), USUAL, "blanks")
        self.bound(rows("a", "n:  vvvv   ", ""), rows("a", "n:  vvvvv   ", ""), book, "blanks")
        self.bound(rows("a", "n:" + "v" * 40, ""), rows("a", "n:" + "v" * 41, ""), USUAL, "blanks")
        self.bound(rows("a", "n:v  v ", ""), rows("a", "n:v   v ", ""), book, "blanks")
        self.bound(rows("a", " LENGTH:0", ""), rows("a", " LENGTHS:0", ""), book, "blanks", "great")

    def test_fields(self):
        book = (1, 1, 1, 2, 5, 2, 1)
        for switches, row in ((("bare",), "n: v\n"), (("blanks",), " n:v;\n"), (("great",), "N: v;\n")):
            self.bound("a;\n" + row * 2 + ";\n", "a;\n" + row * 3 + ";\n", book, *switches)
            self.bound("a;\n" + row * 12 + ";\n", "a;\n" + row * 13 + ";\n", USUAL, *switches)
            self.bound("a;\n" + row + "pieces: yes;\n;\n0;\n" + row + ";\n",
                       "a;\n" + row + "pieces: yes;\n;\n0;\n" + row * 2 + ";\n", book, *switches)
            self.bound("a;\nparts: yes;\n;\n+;\n" + row * 2 + ";\n-;\n",
                       "a;\nparts: yes;\n;\n+;\n" + row * 3 + ";\n-;\n",
                       book, *switches)

    def test_bodies(self):
        book = (1, 1, 1, 2, 5, 2, 1)
        self.bound("a\nlength: 5\n\nxxxxx", "a\nlength: 6\n\nxxxxxx", book, "bare")
        self.bound("a\nrest: yes\n\nxxxxx", "a\nrest: yes\n\nxxxxxx", book, "bare")
        self.bound("a\nrest: yes\n\n" + "x" * 400, "a\nrest: yes\n\n" + "x" * 401, USUAL, "bare")
        self.bound("a\nlength: 400\n\n" + "x" * 400, "a\nlength: 401\n\n" + "x" * 401, USUAL, "bare")
        self.bound("a\npieces: yes\n\n5\nxxxxx\n0\n\n", "a\npieces: yes\n\n6\nxxxxxx\n0\n\n", book, "bare")
        self.bound("a\npieces: yes\n\n3\nxxx\n2\nxx\n0\n\n", "a\npieces: yes\n\n3\nxxx\n3\nxxx\n0\n\n", book, "bare")
        self.bound("a\npieces: yes\n\n190\n" + "x" * 400 + "\n0\n\n", "a\npieces: yes\n\n191\n" + "x" * 401 + "\n0\n\n",
                   USUAL, "bare")
        for some in with_switch("last"):
            self.read(some, rows("a", "length: 5", "length: 5", "") + "x" * 5, [("a", (), ("length", "xxxxx"))], book)
            self.unread(some, rows("a", "length: 5", "length: 6", "") + "x" * 6, book)

    def test_parts_and_depth(self):
        book = (1, 1, 1, 2, 5, 3, 2)
        for count in (3, 4):
            flat = "a\nparts: yes\n\n" + "+\n\n" * count + "-\n"
            inner = "a\nparts: yes\n\n+\nparts: yes\n\n" + "+\n\n" * (count - 2) + "-\n+\n\n-\n"
            for some in with_switch("bare"):
                for road in (flat, inner):
                    if count == 3:
                        self.assertEqual(len(read_lax(some, road + road, book)), 2)
                    else:
                        self.unread(some, road, book)
        for deep in (2, 3):
            road = "a\n" + "parts: yes\n\n+\n" * deep + "\n" + "-\n" * deep
            for some in with_switch("bare"):
                if deep == 2:
                    self.read(some, road, [("a", (), nested(2))], book)
                else:
                    self.unread(some, road, book)
        self.bound("A;\n" + "Parts: yes;\n;\n+;\n" * 6 + ";\n" + "-;\n" * 6,
                   "A;\n" + "Parts: yes;\n;\n+;\n" * 7 + ";\n" + "-;\n" * 7,
                   USUAL, "great")
        for some in SETS:
            self.read(some, rows("a", "parts: yes", "", "-"), [("a", (), ("parts", ()))], (1, 1, 1, 0, 0, 0, 0))
            self.unread(some, rows("a", "parts: yes", "", "+", "", "-"), (1, 1, 1, 0, 0, 0, 1))
            self.unread(some, rows("a", "parts: yes", "", "+", "", "-"), (1, 1, 1, 0, 0, 1, 0))
        greatest = (8, 12, 40, 12, 400, 1000, 20)
        letter = ("deep", (), nested(20, ("length", "x")))
        self.by_all(written_all([letter], greatest), [letter], greatest)
        self.by_none(rows("deep") + rows("parts: yes", "", "+") * 21 + rows("") + rows("-") * 21, greatest)

    def test_left_out_none_and_usual_are_alike(self):
        self.assertEqual(read_lax(["great"], "ABCDEFGH;\n;\n"), [("abcdefgh", (), NONE)])
        self.assertEqual(read_lax(["great"], "ABCDEFGH;\n;\n", None), read_lax(["great"], "ABCDEFGH;\n;\n", book=USUAL))
        self.unread(["great"], "ABCDEFGHI;\n;\n")
        self.unread(["great"], "ABCDEFGHI;\n;\n", USUAL)


class Roads(Lax):
    def test_what_was_written_is_read_as_the_same_letters(self):
        for letters in LISTS:
            self.by_all(written_all(letters), letters)
        for seed in range(6):
            for book in SMALL_BOOKS + (USUAL,):
                letters = Maker(book, seed + 20).letters(3)
                self.by_all(written_all(letters, book), letters, book)

    def test_the_kinds_of_what_is_told(self):
        for some in SETS:
            for told in read_lax(some, written_all([TELL, PIECES])):
                self.assertEqual([type(part) for part in told], [str, tuple, tuple])
                self.assertTrue(all(type(pair) is tuple for pair in told[1]))

    def test_what_a_post_hands_on(self):
        for rules in ([], [("length",)], [("pieces", 2), ("put", "via", "post")], [("drop", "to")]):
            for letters in LISTS:
                post = Post(rules)
                road = post.fed(written_all(letters)) + post.ended()
                self.by_all(road, read_all(road))

    def test_without_a_switch_as_the_strict_reader(self):
        for seed, book in enumerate(SMALL_BOOKS + (USUAL,)):
            maker = Maker(book, seed + 90)
            for number in range(12):
                road = written_all(maker.letters(3), book)[:300]
                for amiss in roads_amiss(maker.chance, road, 15):
                    self.as_strict(amiss, book)

    def as_strict(self, road, book):
        try:
            letters = read_all(road, book)
        except FrameError:
            self.unread((), road, book)
            self.unread([], road, book)
        else:
            self.read((), road, letters, book)
            self.read([], road, letters, book)

    def test_what_was_written_laxly(self):
        for seed in range(4):
            for book in SMALL_BOOKS + (USUAL,):
                maker = Maker(book, seed + 30)
                for some in SETS:
                    letters = maker.letters(2)
                    pen = LaxPen(maker.chance, some, book)
                    road = "".join(pen.letter(*letter) for letter in letters)
                    self.read(some, road, letters, book)
                    self.assertEqual(Glance(some, road, book).letters(), letters)

    def test_as_by_patterns(self):
        """Lax roads, and such with one sign amiss, by several sets of switches each, held against a second reading."""
        read, unread = 0, 0
        for seed, book in enumerate(SMALL_BOOKS + (USUAL,)):
            maker = Maker(book, seed + 50)
            for some in SETS:
                pen = LaxPen(maker.chance, some, book)
                road = "".join(pen.letter(*letter) for letter in maker.letters(2))[:300]
                for amiss in [road] + roads_amiss(maker.chance, road, 4):
                    for other in [some] + maker.chance.sample(SETS, 5):
                        want = Glance(other, amiss, book).letters()
                        if want is None:
                            unread += 1
                            self.unread(other, amiss, book)
                        else:
                            read += 1
                            self.read(other, amiss, want, book)
        self.assertGreater(min(read, unread), 3000)

    def test_a_long_road(self):
        road = "ASK\n to:Bob\n\n" * 2000
        self.assertLess(len(road), 30000)
        for some in (SWITCHES, ("bare", "blanks", "great")):
            self.read(some, road, [("ask", (("to", "Bob"),), NONE)] * 2000)
        self.unread(SWITCHES, road + "x")


class Parting(Lax):
    def test_each_switch(self):
        for switch in SWITCHES:
            road = parting(switch)
            self.assertIs(type(road), str)
            with self.assertRaises(Refused):
                read_all(road)
            self.unread([], road)
            for some in with_switch(switch):
                self.assertTrue(read_lax(some, road))
                self.assertEqual(read_lax(some, road), Glance(some, road, USUAL).letters())
            self.unread([other for other in SWITCHES if other != switch and {other, switch} != {"first", "last"}], road)

    def test_first_and_last_part_from_one_another_too(self):
        for switch in ("first", "last"):
            self.assertNotEqual(read_lax(["first"], parting(switch)), read_lax(["last"], parting(switch)))


if __name__ == "__main__":
    unittest.main()
