"""Lax readers, and the roads over which they and the strict reader part."""

from framepost.bodies import PART_END_NAMES, Tally
from framepost.errors import Unread
from framepost.letters import field_keeps, is_road, is_word
from framepost.marks import number_in
from framepost.signs import END_NAMES, MOST_BODY, MOST_DEEP, MOST_FIELDS, MOST_PARTS, MOST_WORD, book_or_usual

SWITCHES = ("bare", "blanks", "great", "behind", "first", "last")

# Each is strict but for its own switch. The one of last is read with first beside it, too, then as other letters.
PARTINGS = {
    "bare": "ask\n\n",
    "blanks": "ask;\n to :bob ;\n;\n",
    "great": "Ask;\nTo: bob;\n;\n",
    "behind": "ask;\nlength: 2;\nto: bob;\n;\nhi",
    "first": "ask;\nlength: 3;\nparts: yes;\n;\n-;\n",
    "last": "ask;\nparts: yes;\nlength: 3;\n;\n-;\n",
}


def parting(switch):
    """A road that the strict reader refuses, and each reader with this switch reads, both by the usual book."""
    return PARTINGS[switch]


def read_lax(switches, road, book=None):
    """The letters of a whole road, as a reader with these switches reads it; refused with Unread."""
    hold(is_road(road))
    reading = LaxReading(switches, road, book_or_usual(book))
    letters = []
    while not reading.is_at_end():
        letters.append(reading.take_letter())
    return letters


def hold(is_so):
    """Refuses the road where it is not so."""
    if not is_so:
        raise Unread("this reader cannot read the road")


class LaxRows:
    """The rows of fields of a letter, a part or a trail, kept one by one."""

    def __init__(self, switches, book, room, ends):
        self.switches = switches
        self.book = book
        self.room = room
        self.ends = ends
        self.pairs = []
        self.told_ends = []

    def keep_pair(self, name, value):
        if name in END_NAMES:
            self.keep_end(name, value)
        else:
            self.keep_field(name, value)

    def keep_end(self, name, value):
        hold(name in self.ends)
        hold(not self.told_ends or "first" in self.switches or "last" in self.switches)
        number = 0
        if name == "length":
            number = number_in(value, 10, self.book[MOST_BODY])
            hold(number is not None)
        else:
            hold(value == "yes")
        self.told_ends.append((name, number))

    def keep_field(self, name, value):
        hold(not self.told_ends or "behind" in self.switches)
        hold(self.fields_left() > 0 and field_keeps((name, value), self.book))
        self.pairs.append((name, value))

    def fields_left(self):
        """How many fields there may be yet."""
        return self.room - len(self.pairs)

    def end_that_counts(self):
        """None, or a pair (end name, number)."""
        if not self.told_ends:
            return None
        return self.told_ends[0] if "first" in self.switches else self.told_ends[-1]


class LaxReading:
    """One reading of a road, from its first sign on; what is taken lies behind the place then."""

    def __init__(self, switches, road, book):
        self.switches = tuple(switches)
        self.road = road
        self.book = book
        self.place = 0

    def is_at_end(self):
        return self.signs_left() == 0

    def signs_left(self):
        return len(self.road) - self.place

    def take_signs(self, number):
        hold(number <= self.signs_left())
        text = self.road[self.place:self.place + number]
        self.place = self.place + number
        return text

    def take_row(self):
        """The row that begins here, without its row end; no row has a line feed within it."""
        ends_at = self.road.find("\n", self.place)
        hold(ends_at >= 0)
        row = self.take_signs(ends_at + 1 - self.place)[:-1]
        if row.endswith(";"):
            return row[:-1]
        hold("bare" in self.switches)
        return row

    def as_small(self, text):
        return text.lower() if "great" in self.switches else text

    def take_letter(self):
        word = self.as_small(self.take_row())
        hold(is_word(word, self.book[MOST_WORD]))
        return (word,) + self.take_frame(0, Tally(self.book[MOST_PARTS]))

    def take_frame(self, deep, tally):
        """The fields and the body of a letter (deep 0) or a part."""
        rows = self.take_rows(self.book[MOST_FIELDS], END_NAMES if deep == 0 else PART_END_NAMES)
        body = self.take_body(rows.end_that_counts(), rows.fields_left(), deep, tally)
        return (tuple(rows.pairs), body)

    def take_rows(self, room, ends):
        """The rows of fields up to the empty row and with it."""
        rows = LaxRows(self.switches, self.book, room, ends)
        row = self.take_row()
        while row != "":
            halves = row.partition(":")
            rows.keep_pair(self.as_small(self.name_in(halves[0])), self.value_in(halves[2]))
            row = self.take_row()
        return rows

    def name_in(self, text):
        """The name in what stands ahead of the colon."""
        return text.strip(" ") if "blanks" in self.switches else text

    def value_in(self, text):
        """The value in what stands behind the colon."""
        if "blanks" in self.switches:
            return text.strip(" ")
        hold(text.startswith(" "))
        return text[1:]

    def take_body(self, end, room, deep, tally):
        """The body that an end, None or a pair (end name, number), chose."""
        if end is None:
            return ("none",)
        kind = end[0]
        if kind == "length":
            return ("length", self.take_signs(end[1]))
        if kind == "rest":
            hold(self.signs_left() <= self.book[MOST_BODY])
            return ("rest", self.take_signs(self.signs_left()))
        if kind == "pieces":
            return ("pieces", self.take_pieces(), tuple(self.take_rows(room, ()).pairs))
        return ("parts", self.take_parts(deep, tally))

    def take_pieces(self):
        """The pieces, and the row of the size 0 behind them."""
        texts = []
        left = self.book[MOST_BODY]
        size = self.take_size(left)
        while size > 0:
            texts.append(self.take_signs(size))
            hold(self.take_row() == "")
            left = left - size
            size = self.take_size(left)
        return tuple(texts)

    def take_size(self, most):
        size = number_in(self.take_row(), 16, most)
        hold(size is not None)
        return size

    def take_parts(self, deep, tally):
        """The parts, and the row that ends them."""
        parts = []
        row = self.take_row()
        while row == "+":
            hold(deep < self.book[MOST_DEEP] and tally.has_room())
            tally.take_one()
            parts.append(self.take_frame(deep + 1, tally))
            row = self.take_row()
        hold(row == "-")
        return tuple(parts)
