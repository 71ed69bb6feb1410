"""Posts: they read a road, and hand its letters on, turned by rules."""

from framepost.errors import Cut, NoRule, Refused
from framepost.letters import field_keeps, parts_of, texts_of, trail_of
from framepost.reader import Reader
from framepost.signs import MOST_FIELDS, book_or_usual
from framepost.writer import written


class Post:
    """Reads a road, fed in pieces of any size, and tells what it hands on by each."""

    def __init__(self, rules, book=None):
        self.book = book_or_usual(book)
        self.rules = list(rules)
        check_rules(self.rules, self.book)
        self.reader = Reader(self.book)
        self.handed = 0
        self.trouble = None
        self.has_ended = False

    def fed(self, text):
        if self.is_over():
            return ""
        try:
            self.reader.feed(text)
        except Refused as refusal:
            self.trouble = ("refused", refusal.at)
        # Behind a refusal, too: letters may have become whole by the signs ahead of it in this piece.
        return self.hand_on()

    def ended(self):
        if self.is_over():
            return ""
        self.has_ended = True
        try:
            self.reader.finish()
        except Cut as cut:
            self.trouble = ("cut", cut.at)
        return self.hand_on()

    def fault(self):
        return self.trouble

    def is_over(self):
        """Whether nothing is handed on any more."""
        return self.has_ended or self.trouble is not None

    def hand_on(self):
        """The writings of the letters that were read and not yet handed on, turned."""
        fresh = self.reader.letters()[self.handed:]
        self.handed = self.handed + len(fresh)
        return "".join([written(turned(letter, self.rules, self.book), self.book) for letter in fresh])


def check_rules(rules, book):
    """Refuses with NoRule the rules that no post of this book may have."""
    dropped = dropped_names(rules)
    for name, value in puts_of(rules):
        if not field_keeps((name, value), book):
            raise NoRule("the name or the value that is put is none by the book")
        if name in dropped:
            raise NoRule("a name is put and dropped")
    shapes = shapes_of(rules)
    if len(shapes) > 1:
        raise NoRule("more than one rule tells how bodies end")
    if any([shape[0] == "pieces" and shape[1] < 1 for shape in shapes]):
        raise NoRule("a piece has one sign or more")


def puts_of(rules):
    """The fields that are put, in their order."""
    return [(rule[1], rule[2]) for rule in rules if rule[0] == "put"]


def dropped_names(rules):
    return [rule[1] for rule in rules if rule[0] == "drop"]


def shapes_of(rules):
    """The rules that tell how bodies end; rules that are not refused have one at most."""
    return [rule for rule in rules if rule[0] in ("length", "pieces")]


def turned(letter, rules, book=None):
    """A letter that keeps the book, turned by rules that no post refuses; it keeps the book, too."""
    names = dropped_names(rules)
    frame = (without(letter[1], names), body_without(letter[2], names))
    for shape in shapes_of(rules):
        frame = shaped(frame, shape)
    pairs = with_puts(frame, puts_of(rules), book_or_usual(book)[MOST_FIELDS])
    return (letter[0], pairs, frame[1])


def without(fields, names):
    """The fields of other names than these."""
    return tuple([field for field in fields if field[0] not in names])


def body_without(body, names):
    """The body, without the fields of these names in its own trail; those of parts stay."""
    if body[0] != "pieces":
        return body
    return ("pieces", body[1], without(body[2], names))


def shaped(frame, shape):
    """The fields and the body of a letter or part, with the bodies in it as the rule tells."""
    fields = frame[0]
    body = frame[1]
    if body[0] == "parts":
        return (fields, ("parts", tuple([shaped(part, shape) for part in parts_of(body)])))
    if shape[0] == "length" and body[0] in ("pieces", "rest"):
        return (fields + trail_of(body), ("length", "".join(texts_of(body))))
    if shape[0] == "pieces" and body[0] in ("length", "rest"):
        return (fields, ("pieces", cut_up(body[1], shape[1]), ()))
    return frame


def cut_up(text, size):
    """The text in pieces of that size, the last one perhaps shorter."""
    return tuple([text[at:at + size] for at in range(0, len(text), size)])


def with_puts(frame, puts, most):
    """The fields of a letter, with those that are put, as long as there is room and the name is new."""
    fields = frame[0]
    trail = trail_of(frame[1])
    for name, value in puts:
        together = fields + trail
        if len(together) < most and name not in [field[0] for field in together]:
            fields = fields + ((name, value),)
    return fields
