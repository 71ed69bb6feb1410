"""Rows of fields, read sign by sign up to the empty row and with it."""

from framepost.marks import Closed, Exact, Name, Number, RowEnd, Value
from framepost.signs import MOST_BODY, MOST_NAME, MOST_VALUE, ROW_END


class FieldRow:
    """One row of a name and a value: that of an ordinary field, or an end row."""

    def __init__(self, book, room, ends):
        self.book = book
        self.ends = ends
        # Where no value is good, no ordinary field can be read to its end.
        self.name = Name(book[MOST_NAME], room if book[MOST_VALUE] > 0 else 0, ends)
        self.head = Closed(self.name, ": ")
        self.value = None

    def fed(self, sign):
        if self.value is not None:
            return self.value.fed(sign)
        if not self.head.fed(sign):
            return False
        if self.head.good():
            self.value = self.value_to_come()
        return True

    def name_to_come(self):
        """The name that this row has when what it awaits is fed on."""
        return self.name.told() + self.name.awaited()

    def value_to_come(self):
        """A new machine for the value, with its row end."""
        name = self.name_to_come()
        if name not in self.ends:
            return Closed(Value(self.book[MOST_VALUE]), ROW_END)
        if name == "length":
            return Closed(Number(10, self.book[MOST_BODY]), ROW_END)
        return Closed(Exact("yes"), ROW_END)

    def end_to_come(self):
        """The end that this row tells when what it awaits is fed on, None where it is an ordinary field's."""
        name = self.name_to_come()
        if name not in self.ends:
            return None
        if name != "length" or self.value is None:
            return (name, 0)
        return (name, self.value.told())

    def good(self):
        return self.value is not None and self.value.good()

    def awaited(self):
        if self.value is not None:
            return self.value.awaited()
        return self.head.awaited() + self.value_to_come().awaited()

    def told(self):
        return (self.name.told(), self.value.told())


class Fields:
    """Rows of ordinary fields, perhaps one end row, and the empty row."""

    def __init__(self, book, room, ends):
        self.book = book
        self.room = room
        self.ends = ends
        self.pairs = []
        self.end = None
        # What reads the row that is begun: at most one of the two, none at the beginning of a row.
        self.row = None
        self.empty_row = None

    def fed(self, sign):
        if self.empty_row is not None:
            return self.empty_row.fed(sign)
        if self.row is None and sign == ROW_END[0]:
            self.empty_row = RowEnd()
            return self.empty_row.fed(sign)
        return self.fed_row(sign)

    def fed_row(self, sign):
        """Like fed, where the sign can stand in no empty row."""
        if self.end is not None:
            return False
        row = self.row
        if row is None:
            row = FieldRow(self.book, self.room_left(), self.ends)
        if not row.fed(sign):
            return False
        self.row = row
        if row.good():
            self.keep_row()
        return True

    def keep_row(self):
        """Keeps what the row tells whose row end was just read."""
        self.end = self.row.end_to_come()
        if self.end is None:
            self.pairs.append(self.row.told())
        self.row = None

    def whole(self):
        return self.empty_row is not None and self.empty_row.good()

    def awaited(self):
        if self.empty_row is not None:
            return self.empty_row.awaited()
        if self.row is not None:
            return self.row.awaited() + ROW_END
        return ROW_END

    def told(self):
        return tuple(self.pairs)

    def told_end(self):
        return self.end

    def end_to_come(self):
        """The end that is told when what these rows await is fed on."""
        if self.row is None:
            return self.end
        return self.row.end_to_come()

    def room_left(self):
        return self.room - len(self.pairs)
