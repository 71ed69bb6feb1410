"""What several tests need: letters to try, cuts, a walk along a machine, and readings of whole roads."""

import random
import re

from framepost.errors import NoLetter
from framepost.signs import END_NAMES
from framepost.writer import written_all

NONE = ("none",)
SMALL = "abcdefghijklmnopqrstuvwxyz"
PLAIN = "".join(chr(code) for code in range(32, 127) if chr(code) != "%") + "\n"

SMALL_BOOKS = (
    (1, 1, 1, 0, 0, 0, 0),
    (1, 1, 1, 1, 1, 1, 1),
    (2, 1, 2, 2, 3, 2, 1),
    (1, 4, 1, 1, 2, 3, 2),
    (3, 5, 3, 2, 17, 4, 3),
    (2, 3, 2, 1, 0, 2, 0),
    (2, 3, 2, 0, 2, 0, 2),
)

ASK = ("ask", (), NONE)
TELL = ("tell", (("to", "bob"),), ("length", "hi"))
EMPTY = ("e", (), ("length", ""))
PIECES = ("ask", (("to", "bob"),), ("pieces", ("hi\n", "x"), (("sum", "4"),)))
PARTS = ("mix", (("a", "b c"),), ("parts", (
    ((("n", "1"),), ("length", "-;\n")),
    ((), ("parts", (((), NONE), ((), ("pieces", ("0;\n",), (("t", ":"),)))))),
    ((), ("parts", ())),
)))
REST = ("tell", (("n", "v"),), ("rest", "on;\n;\nand on"))
BARE_REST = ("tell", (), ("rest", ""))
LISTS = ([], [ASK], [TELL], [EMPTY], [PIECES], [PARTS], [REST], [BARE_REST], [ASK, ASK, TELL, EMPTY, ASK],
         [TELL, PIECES, PARTS, EMPTY, ASK, REST], [PARTS, PARTS, BARE_REST], [PIECES, ASK, TELL])
CUTS = (1, 2, 3, 7, 16, 100)


def rows(*texts):
    """The texts, each with a row end behind it."""
    return "".join(text + ";\n" for text in texts)


def fields(count):
    return (("n", "v"),) * count


def nested(deep, ground=NONE):
    """A body of parts within parts, the deepest part so deep, with this body in it."""
    body = ground
    for number in range(deep):
        body = ("parts", (((), body),))
    return body


def tails_of(texts):
    """Every ending of every text, each once, the longest too."""
    return sorted({text[at:] for text in texts for at in range(len(text) + 1)}, key=lambda text: (len(text), text))


# Signs to try at a place, and endings of frames: some of them ends whatever may still be ended behind it.
TRY_SIGNS = "abelprst012:;+-~A \n"
FRAMES = [rows("a", ""), rows("a: a", ""), rows("pieces: yes", "", "0", ""), rows("parts: yes", "", "-"),
          rows("rest: yes", ""), rows("+", "", "-"), rows("a", "0", ""), rows("1", "a", "0", ""),
          rows("2", "aa", "0", ""), rows("length: 2", "") + "aa"]
FRAMES += [rows(f"length: {number}", "") + "a" * number for number in (0, 1, 10, 12, 17)]
TAILS = sorted({tail + "-;\n" * deep for tail in tails_of(FRAMES) for deep in range(4)}, key=len)


def beginnings_of(texts):
    return {text[:at] for text in texts for at in range(len(text) + 1)}


def pieces_of(road, size):
    """The road cut into pieces of that size, one without signs ahead of each and one at the end."""
    pieces = []
    for at in range(0, len(road), size):
        pieces += ["", road[at:at + size]]
    return pieces + [""]


def all_cuts(road):
    uneven = [road[at * (at + 1) // 2:(at + 1) * (at + 2) // 2] for at in range(len(road) + 1)]
    return [[road]] + [pieces_of(road, size) for size in CUTS] + [uneven]


def roads_amiss(chance, road, turns):
    """The road with a sign put in, taken out or exchanged, each at so many places."""
    amiss = []
    for turn in range(turns):
        at = chance.randrange(len(road) + 1)
        sign = chance.choice(";\n:+- 01afelprstyz" + PLAIN)
        amiss += [road[:at] + sign + road[at:], road[:at] + road[at + 1:], road[:at] + sign + road[at + 1:]]
    return amiss


def fed_on(machine, text):
    """The machine, when it has taken in each sign of the text."""
    for at, sign in enumerate(text):
        if machine.fed(sign) is not True:
            raise AssertionError(f"not taken in: sign {at} of {text!r}")
    return machine


def is_whole(machine):
    return machine.whole() if hasattr(machine, "whole") else machine.good()


def state_of(machine):
    """All that a machine, rows of fields or a body tell."""
    told = [is_whole(machine), machine.awaited()]
    if hasattr(machine, "is_open"):
        return told + [machine.is_open(), machine.told() if machine.whole() else None]
    if hasattr(machine, "told_end"):
        return told + [machine.told(), machine.told_end(), machine.room_left()]
    return told + [machine.told()]


def look_at(test, make, text, signs, begins):
    """At one place: awaited, and that just the signs are taken in with which something good begins.

    make makes a new machine, begins tells of a text whether something good begins so. Told are the signs
    that were taken in.
    """
    machine = fed_on(make(), text)
    before = state_of(machine)
    test.assertIs(type(before[0]), bool)
    taken = [sign for sign in signs if begins(text + sign)]
    for sign in signs:
        if sign not in taken:
            test.assertIs(machine.fed(sign), False, repr((text, sign)))
            test.assertEqual(state_of(machine), before, repr((text, sign)))
    for sign in taken:
        test.assertIs(fed_on(make(), text).fed(sign), True, repr((text, sign)))
    test.assertEqual(before[1] == "", before[0], repr(text))
    awaited = before[1]
    for at, sign in enumerate(awaited):
        test.assertIs(is_whole(machine), False, repr((text, awaited, at)))
        test.assertIs(machine.fed(sign), True, repr((text, awaited, at)))
    test.assertIs(is_whole(machine), True, repr((text, awaited)))
    return taken


def look_all_over(test, make, signs, begins, most):
    """Looks at every place that so many of these signs lead to; told is every text that was looked at."""
    seen = []
    level = [""]
    while level:
        seen.extend(level)
        following = []
        for text in level:
            taken = look_at(test, make, text, signs, begins)
            following.extend(text + sign for sign in taken if len(text) < most)
        level = following
    return seen


def look_along(test, make, text, signs, begins):
    """Looks at every place of one text."""
    for at in range(len(text) + 1):
        look_at(test, make, text[:at], signs, begins)


class Unreadable(Exception):
    pass


HEAD = re.compile(r"((?:[a-z]+: [^;\n]+;\n)*);\n")
FIRST = re.compile(r"([a-z]+);\n")
SIZE = re.compile(r"([0-9a-f]+);\n")


def found(pattern, road, at):
    match = pattern.match(road, at)
    if match is None:
        raise Unreadable
    return match[1], match.end()


def signs_from(road, at, number):
    if at + number > len(road):
        raise Unreadable
    return road[at:at + number], at + number


def row_at(road, at, row):
    if not road.startswith(row, at):
        raise Unreadable
    return at + len(row)


def plain_frame(road, at):
    """Fields and a body that begin there, by no book and not too strictly, and where they end."""
    head, at = found(HEAD, road, at)
    pairs = [tuple(row.split(": ", 1)) for row in head.split(";\n")[:-1]]
    end = pairs.pop() if pairs and pairs[-1][0] in END_NAMES else ("none", "")
    body, at = plain_body(road, at, *end)
    return (tuple(pairs), body), at


def plain_body(road, at, kind, value):
    if kind == "none":
        return NONE, at
    if kind == "rest":
        return ("rest", road[at:]), len(road)
    if kind == "length":
        if not value.isdigit():
            raise Unreadable
        text, at = signs_from(road, at, int(value))
        return ("length", text), at
    return plain_pieces(road, at) if kind == "pieces" else plain_parts(road, at)


def plain_pieces(road, at):
    texts = []
    figures, at = found(SIZE, road, at)
    while figures != "0":
        text, at = signs_from(road, at, int(figures, 16))
        texts.append(text)
        figures, at = found(SIZE, road, row_at(road, at, ";\n"))
    (trail, body), at = plain_frame(road, at)
    if body != NONE:
        raise Unreadable
    return ("pieces", tuple(texts), trail), at


def plain_parts(road, at):
    parts = []
    while road.startswith("+;\n", at):
        part, at = plain_frame(road, at + 3)
        parts.append(part)
    return ("parts", tuple(parts)), row_at(road, at, "-;\n")


def plain_reading(road, book):
    """The letters of a whole road, read at one glance and not sign by sign, or None.

    Read is with little care; what was misread so, or breaks the book, is not written again as the road.
    """
    letters = []
    at = 0
    try:
        while at < len(road):
            word, at = found(FIRST, road, at)
            frame, at = plain_frame(road, at)
            letters.append((word,) + frame)
        return letters if written_all(letters, book) == road else None
    except (Unreadable, NoLetter):
        return None


class Maker:
    """Letters that keep a book, the same ones for the same seed."""

    def __init__(self, book, seed):
        self.book = book
        self.chance = random.Random(seed)

    def up_to(self, most):
        """A number up to so many, often one of the edges."""
        return self.chance.choice((0, min(1, most), most, self.chance.randint(0, most)))

    def text(self, size, signs=PLAIN):
        return "".join(self.chance.choice(signs) for number in range(size))

    def body_text(self, size):
        """A text of a body that often looks like rows."""
        some = self.chance.choice(("", "a;\n;\n", "0;\n;\n", "-;\n", "+;\n;\n", "\n", ";", "n: v;\n"))
        return (some + self.text(size))[:size]

    def name(self):
        near = [name for name in ("res", "rests", "lengt", "part", "partsa", "piece", "l", "p", "r")
                if len(name) <= self.book[1]]
        if near and self.chance.random() < 0.4:
            return self.chance.choice(near)
        name = self.text(max(1, self.up_to(self.book[1])), SMALL)
        return "a" if name in END_NAMES else name

    def value(self):
        value = self.text(max(1, self.up_to(self.book[2])), PLAIN.replace(";", "").replace("\n", "") + "  ")
        first = "x" if value[0] == " " else value[0]
        last = "y" if value[-1] == " " else value[-1]
        return first if len(value) == 1 else first + value[1:-1] + last

    def fields(self, count):
        return tuple((self.name(), self.value()) for number in range(count))

    def pieces(self, room):
        texts = []
        left = self.up_to(self.book[4])
        while left > 0:
            size = self.chance.randint(1, left)
            texts.append(self.body_text(size))
            left -= size
        return ("pieces", tuple(texts), self.fields(self.up_to(room)))

    def parts(self, deep):
        parts = []
        while deep < self.book[6] and self.left > 0 and self.chance.random() < 0.7:
            self.left -= 1
            parts.append(self.frame(deep + 1))
        return ("parts", tuple(parts))

    def frame(self, deep):
        own = self.fields(self.up_to(self.book[3]))
        kind = self.chance.choice(("none", "length", "pieces", "parts", "parts") + ("rest",) * (deep == 0))
        if kind == "none":
            return own, NONE
        if kind == "pieces":
            return own, self.pieces(self.book[3] - len(own))
        if kind == "parts":
            return own, self.parts(deep)
        return own, (kind, self.body_text(self.up_to(self.book[4])))

    def letter(self):
        self.left = self.book[5]
        return (self.text(max(1, self.up_to(self.book[0])), SMALL),) + self.frame(0)

    def letters(self, count):
        """So many letters, or fewer, where one with a rest comes ahead."""
        letters = []
        while len(letters) < count and (not letters or letters[-1][2][0] != "rest"):
            letters.append(self.letter())
        return letters
