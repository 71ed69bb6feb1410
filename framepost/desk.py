"""The desk: rows of text are told to it, and it answers each by a text."""

from framepost.errors import NoRow
from framepost.hope import verdict
from framepost.lax import SWITCHES, read_lax
from framepost.letters import is_word
from framepost.marks import number_in
from framepost.posts import Post
from framepost.reader import Reader
from framepost.signs import USUAL, figures_of, is_plain
from framepost.writer import written

# What stands behind the first word of each row; signs stand last, and may have blanks in them.
FORMS = {
    "book": ("number", "number", "number", "number", "number", "number", "number"),
    "feed": ("signs",),
    "end": (),
    "letter": ("number",),
    "awaited": (),
    "try": ("signs",),
    "put": ("name", "signs"),
    "drop": ("name",),
    "length": (),
    "pieces": ("number",),
    "hand": ("signs",),
    "done": (),
    "fault": (),
    "lax": ("switches", "signs"),
}

RULES = ("put", "drop", "length", "pieces")

# A number that is told has four figures at most.
MOST_NUMBER = 9999

LEAST_BOOK = (1, 1, 1, 0, 0, 0, 0)
GREATEST_BOOK = (1000, 1000, 1000, 1000, 1000, 1000, 20)

# Behind a backslash: the sign that the two stand for.
ESCAPES = {"n": "\n", "\\": "\\"}


class Desk:
    """A book, a reader of it, and a post of it with rules."""

    def __init__(self):
        self.book = USUAL
        self.reader = Reader(self.book)
        self.rules = []
        self.post = Post(self.rules, self.book)

    def say(self, row):
        told = words_of(row)
        verb = told[0]
        things = [thing_told(sort, word) for sort, word in zip(FORMS[verb], told[1:])]
        if verb == "book":
            return self.begin_book(tuple(things))
        if verb in RULES:
            return self.add_rule((verb,) + tuple(things))
        if verb == "try":
            return answer_of(verdict(things[0], self.book))
        if verb == "lax":
            return figures_of(len(read_lax(things[0], things[1], self.book)), 10)
        if verb in ("hand", "done", "fault"):
            return self.ask_post(verb, things)
        return self.ask_reader(verb, things)

    def begin_book(self, book):
        """A new reader of a new book, and a new post without rules."""
        if any([not least <= number <= most for least, number, most in zip(LEAST_BOOK, book, GREATEST_BOOK)]):
            raise NoRow("no book has such numbers")
        self.book = book
        self.reader = Reader(book)
        self.rules = []
        self.post = Post(self.rules, book)
        return "ok"

    def add_rule(self, rule):
        """A new post with one rule more; where the post refuses, all stays as it was."""
        rules = self.rules + [rule]
        self.post = Post(rules, self.book)
        self.rules = rules
        return "ok"

    def ask_post(self, verb, things):
        if verb == "hand":
            return signs_shown(self.post.fed(things[0]))
        if verb == "done":
            return signs_shown(self.post.ended())
        return "none" if self.post.fault() is None else answer_of(self.post.fault())

    def ask_reader(self, verb, things):
        if verb == "letter":
            return self.show_letter(things[0])
        if verb == "awaited":
            return signs_shown(self.reader.awaited())
        if verb == "feed":
            self.reader.feed(things[0])
        else:
            self.reader.finish()
        return figures_of(len(self.reader.letters()), 10)

    def show_letter(self, number):
        letters = self.reader.letters()
        if number >= len(letters):
            raise NoRow("this letter was not read")
        return signs_shown(written(letters[number], self.book))


def words_of(row):
    """The words of a row, as many as its form has and the first one; signs are one word, blanks and all."""
    if not isinstance(row, str):
        raise NoRow("a row is a text")
    verb = row.partition(" ")[0]
    if verb not in FORMS:
        raise NoRow("no row begins so")
    words = row.split(" ", len(FORMS[verb]))
    # A row of one word is not split at all, so what stands behind the verb would still hang on it.
    if words[0] != verb or len(words) != len(FORMS[verb]) + 1:
        raise NoRow("too few or too many words")
    return words


def thing_told(sort, word):
    """What a word of this sort tells; refused with NoRow where it is none."""
    if sort == "number":
        thing = number_in(word, 10, MOST_NUMBER)
    elif sort == "name":
        thing = word if is_word(word, len(word)) else None
    elif sort == "switches":
        thing = switches_in(word)
    else:
        thing = signs_in(word)
    if thing is None:
        raise NoRow("a part of the row is not as told")
    return thing


def switches_in(word):
    """The switches whose numbers are told, parted by commas; None where a number is none."""
    if word == "-":
        return []
    numbers = [number_in(part, 10, len(SWITCHES) - 1) for part in word.split(",")]
    if None in numbers:
        return None
    return [SWITCHES[number] for number in numbers]


def signs_in(word):
    """The signs that are told, one or more; None where they are not told as they must be."""
    signs = []
    is_escaped = False
    for sign in word:
        if is_escaped:
            signs.append(ESCAPES.get(sign, ""))
            is_escaped = False
        elif sign == "\\":
            is_escaped = True
        else:
            signs.append(sign if is_plain(sign) and sign != "\n" else "")
    if is_escaped or "" in signs or not signs:
        return None
    return "".join(signs)


def signs_shown(text):
    """Signs as they are answered."""
    return text.replace("\\", "\\\\").replace("\n", "\\n")


def answer_of(told):
    """A verdict or a fault as it is answered: a word, and perhaps signs or a number behind a blank."""
    if len(told) == 1:
        return told[0]
    shown = signs_shown(told[1]) if told[0] == "hopeful" else figures_of(told[1], 10)
    return told[0] + " " + shown
