"""Bodies, read sign by sign, and the frame of fields and body that letters and parts have."""

from framepost.fields import Fields
from framepost.marks import Closed, Exact, Number, Signs
from framepost.signs import END_NAMES, MOST_BODY, MOST_DEEP, MOST_FIELDS, ROW_END

PART_END_NAMES = ("length", "pieces", "parts")

# The rows that end pieces without a trail, that begin a part, and that end parts.
PIECES_END = "0;\n;\n"
PART_ROW = "+;\n"
PARTS_END = "-;\n"


class Tally:
    """How many parts there may be yet in one letter, at whatever depth."""

    def __init__(self, parts):
        self.left = parts

    def has_room(self):
        return self.left > 0

    def take_one(self):
        self.left = self.left - 1


def body_of(end, book, room, deep, tally):
    """The body that an end, None or a pair (end name, number), chose."""
    if end is None:
        return Body()
    kind = end[0]
    if kind == "length":
        return LengthBody(end[1])
    if kind == "pieces":
        return PiecesBody(book, room)
    if kind == "parts":
        return PartsBody(book, deep, tally)
    return RestBody(book[MOST_BODY])


class Body:
    """The body of none, and what the other sorts have in common."""

    def fed(self, sign):
        return False

    def whole(self):
        return True

    def is_open(self):
        """Whether the end of the road alone ends this body."""
        return False

    def awaited(self):
        return ""

    def told(self):
        return ("none",)


class LengthBody(Body):
    """Just so many signs as were told ahead."""

    def __init__(self, number):
        self.signs = Signs(number)

    def fed(self, sign):
        return self.signs.fed(sign)

    def whole(self):
        return self.signs.good()

    def awaited(self):
        return self.signs.awaited()

    def told(self):
        return ("length", self.signs.told())


class RestBody(Body):
    """Any signs up to a greatest number; whole at any time."""

    def __init__(self, most):
        self.signs = Signs(most)

    def fed(self, sign):
        return self.signs.fed(sign)

    def is_open(self):
        return True

    def told(self):
        return ("rest", self.signs.told())


class PiecesBody(Body):
    """Pieces, each with a row of its size ahead, then a size of 0 and the trail."""

    def __init__(self, book, room):
        self.left = book[MOST_BODY]
        self.texts = []
        self.size = self.new_size()
        # None but behind a row of a size above 0.
        self.piece = None
        self.trail = Fields(book, room, ())

    def new_size(self):
        return Closed(Number(16, self.left), ROW_END)

    def fed(self, sign):
        if self.piece is not None:
            return self.fed_piece(sign)
        if self.size.good():
            return self.trail.fed(sign)
        return self.fed_size(sign)

    def fed_size(self, sign):
        if not self.size.fed(sign):
            return False
        if self.size.good() and self.size.told() > 0:
            self.piece = Closed(Signs(self.size.told()), ROW_END)
        return True

    def fed_piece(self, sign):
        if not self.piece.fed(sign):
            return False
        if self.piece.good():
            self.keep_piece(self.piece.told())
        return True

    def keep_piece(self, text):
        """Keeps a piece that was read, and goes on to the row of the next size."""
        self.texts.append(text)
        self.left = self.left - len(text)
        self.piece = None
        self.size = self.new_size()

    def whole(self):
        return self.trail.whole()

    def awaited(self):
        if self.piece is not None:
            return self.piece.awaited() + PIECES_END
        number = self.size.told()
        if number > 0:
            return self.size.awaited() + Signs(number).awaited() + ROW_END + PIECES_END
        return self.size.awaited() + self.trail.awaited()

    def told(self):
        return ("pieces", tuple(self.texts), self.trail.told())


class PartsBody(Body):
    """Parts, each with a row ahead that begins it, and the row that ends them."""

    def __init__(self, book, deep, tally):
        self.book = book
        self.deep = deep
        self.tally = tally
        self.parts = []
        # The row that begins a part or ends the parts, None at its beginning; then the part behind it.
        self.row = None
        self.part = None

    def fed(self, sign):
        if self.part is not None:
            return self.fed_part(sign)
        if self.row is None:
            return self.begin_row(sign)
        if not self.row.fed(sign):
            return False
        if self.row.told() == PART_ROW:
            self.part = self.new_part()
        return True

    def begin_row(self, sign):
        """Takes in the first sign of a row, where it may come; a part counts from this sign on."""
        if sign == PARTS_END[0]:
            self.row = Exact(PARTS_END)
        elif sign == PART_ROW[0] and self.has_room():
            self.tally.take_one()
            self.row = Exact(PART_ROW)
        else:
            return False
        return self.row.fed(sign)

    def has_room(self):
        """Whether one part more may begin here."""
        return self.deep < self.book[MOST_DEEP] and self.tally.has_room()

    def new_part(self):
        return Frame(self.book, self.deep + 1, self.tally)

    def fed_part(self, sign):
        if not self.part.fed(sign):
            return False
        if self.part.whole():
            self.parts.append(self.part.told())
            self.part = None
            self.row = None
        return True

    def whole(self):
        return self.row is not None and self.row.told() == PARTS_END

    def awaited(self):
        if self.part is not None:
            return self.part.awaited() + PARTS_END
        if self.row is None:
            return PARTS_END
        if self.row.told()[0] == PARTS_END[0]:
            return self.row.awaited()
        return self.row.awaited() + self.new_part().awaited() + PARTS_END

    def told(self):
        return ("parts", tuple(self.parts))


class Frame:
    """The rows of fields, and the body that their end row chose, of a letter (deep 0) or a part."""

    def __init__(self, book, deep, tally):
        self.book = book
        self.deep = deep
        self.tally = tally
        self.fields = Fields(book, book[MOST_FIELDS], END_NAMES if deep == 0 else PART_END_NAMES)
        self.body = None

    def fed(self, sign):
        if self.body is not None:
            return self.body.fed(sign)
        if not self.fields.fed(sign):
            return False
        if self.fields.whole():
            self.body = self.body_to_come()
        return True

    def body_to_come(self):
        """A new body, as it is chosen when what the fields await is fed on."""
        return body_of(self.fields.end_to_come(), self.book, self.fields.room_left(), self.deep, self.tally)

    def whole(self):
        return self.body is not None and self.body.whole()

    def is_open(self):
        return self.body is not None and self.body.is_open()

    def awaited(self):
        if self.body is not None:
            return self.body.awaited()
        return self.fields.awaited() + self.body_to_come().awaited()

    def told(self):
        return (self.fields.told(), self.body.told())
