"""Signs, figures, and the book of greatest numbers."""

# Where each number of a book stands in it.
MOST_WORD = 0
MOST_NAME = 1
MOST_VALUE = 2
MOST_FIELDS = 3
MOST_BODY = 4
MOST_PARTS = 5
MOST_DEEP = 6

USUAL = (8, 12, 40, 12, 400, 12, 6)

END_NAMES = ("length", "pieces", "parts", "rest")

ROW_END = ";\n"

FIGURES = "0123456789abcdef"


def book_or_usual(book):
    """The book that was told, or the usual one where none was."""
    return USUAL if book is None else book


def is_small(sign):
    """Whether a text is just one small letter."""
    return len(sign) == 1 and "a" <= sign <= "z"


def is_plain(sign):
    """Whether a text is just one sign that may stand on a road."""
    return len(sign) == 1 and (sign == "\n" or " " <= sign <= "~")


def figures_of(number, base):
    """A number from 0 on, written to the base 10 or 16."""
    figures = [FIGURES[number % base]]
    number = number // base
    while number > 0:
        figures.append(FIGURES[number % base])
        number = number // base
    return "".join(reversed(figures))
