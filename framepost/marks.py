"""Machines for the parts of a row, each fed one sign at a time."""

from framepost.signs import END_NAMES, FIGURES, ROW_END, is_plain, is_small

# What stands, in a text that is awaited, where any small letter may.
FILLER = "a"


class Mark:
    """A machine that keeps the signs that it took in; each sort says which sign may come behind them."""

    def __init__(self):
        self.text = ""

    def fed(self, sign):
        if not self.takes(sign):
            return False
        self.text = self.text + sign
        return True

    def takes(self, sign):
        """Whether some good text begins with what was taken in and this sign; here, where no sort is told, none."""
        return False

    def told(self):
        return self.text


class Exact(Mark):
    """One text alone is good."""

    def __init__(self, text):
        Mark.__init__(self)
        self.goal = text

    def takes(self, sign):
        return self.goal.startswith(self.text + sign)

    def good(self):
        return self.text == self.goal

    def awaited(self):
        return self.goal[len(self.text):]


class RowEnd(Exact):
    """The row end alone is good."""

    def __init__(self):
        Exact.__init__(self, ROW_END)


class Number(Mark):
    """The writings of the numbers from 0 to the greatest one are good."""

    def __init__(self, base, most):
        Mark.__init__(self)
        self.base = base
        self.most = most

    def takes(self, sign):
        figure = FIGURES[:self.base].find(sign)
        if figure < 0 or self.text == "0":
            return False
        return self.told() * self.base + figure <= self.most

    def good(self):
        return self.text != ""

    def awaited(self):
        return "" if self.good() else "0"

    def told(self):
        number = 0
        for figure in self.text:
            number = number * self.base + FIGURES.find(figure)
        return number


class Word(Mark):
    """Texts of small letters are good, up to a greatest length."""

    def __init__(self, most):
        Mark.__init__(self)
        self.most = most

    def takes(self, sign):
        return is_small(sign) and len(self.text) < self.most

    def good(self):
        return self.text != ""

    def awaited(self):
        return "" if self.good() else FILLER


class Value(Mark):
    """The values of ordinary fields are good, up to a greatest length."""

    def __init__(self, most):
        Mark.__init__(self)
        self.most = most

    def takes(self, sign):
        if not is_plain(sign) or sign in (";", "\n"):
            return False
        if sign == " ":
            # A blank is never the last sign, so there must be a place behind it.
            return 0 < len(self.text) < self.most - 1
        return len(self.text) < self.most

    def good(self):
        return self.text != "" and self.text[-1] != " "

    def awaited(self):
        return "" if self.good() else FILLER


class Name(Mark):
    """The end names that may stand are good, and, where there is room, the names of ordinary fields."""

    def __init__(self, most, room, ends):
        Mark.__init__(self)
        self.most = most
        self.room = room
        self.ends = ends

    def takes(self, sign):
        text = self.text + sign
        if any([end.startswith(text) for end in self.ends]):
            return True
        return is_small(sign) and self.can_grow_ordinary(text)

    def can_grow_ordinary(self, text):
        """Whether the name of an ordinary field begins with these small letters."""
        if self.room < 1 or len(text) > self.most:
            return False
        # Ahead of the greatest length an end name can still grow into another name.
        return len(text) < self.most or text not in END_NAMES

    def good(self):
        if self.text in self.ends:
            return True
        return self.text != "" and self.text not in END_NAMES and self.can_grow_ordinary(self.text)

    def awaited(self):
        if self.good():
            return ""
        # No end name ends in the filler: with it the text is an ordinary name.
        if self.can_grow_ordinary(self.text + FILLER):
            return FILLER
        for end in self.ends:
            if end.startswith(self.text):
                return end[len(self.text):]
        return ""


class Signs(Mark):
    """Texts of just so many signs are good, whatever signs they are."""

    def __init__(self, number):
        Mark.__init__(self)
        self.number = number

    def takes(self, sign):
        return is_plain(sign) and len(self.text) < self.number

    def good(self):
        return len(self.text) == self.number

    def awaited(self):
        return FILLER * (self.number - len(self.text))


class Closed:
    """A machine and the text that closes it; told is what the machine tells.

    Where the machine is good it must not take in the first sign of the closing text: then a sign has one
    place to go, and the whole is good just once, with the last sign of that text.
    """

    def __init__(self, mark, text):
        self.mark = mark
        self.closing = Exact(text)
        self.is_closing = False

    def fed(self, sign):
        if not self.is_closing and self.mark.fed(sign):
            return True
        if not self.mark.good() or not self.closing.fed(sign):
            return False
        self.is_closing = True
        return True

    def good(self):
        return self.closing.good()

    def awaited(self):
        return self.mark.awaited() + self.closing.awaited()

    def told(self):
        return self.mark.told()


def number_in(text, base, most):
    """The number from 0 to the greatest one whose writing the text is, None where it is no such writing."""
    number = Number(base, most)
    for sign in text:
        if not number.fed(sign):
            return None
    return number.told() if number.good() else None
