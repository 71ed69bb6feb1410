"""How letters are written on a road."""

from framepost.errors import NoLetter
from framepost.letters import keeps
from framepost.signs import ROW_END, figures_of


def written(letter, book=None):
    """The writing of a letter; refused with NoLetter where it does not keep the book."""
    if not keeps(letter, book):
        raise NoLetter("this letter does not keep the book")
    return letter[0] + ROW_END + frame_text(letter[1], letter[2])


def written_all(letters, book=None):
    """The writings of letters, one right behind the other; refused with NoLetter like one letter."""
    if any([letter[2][0] == "rest" for letter in letters[:-1]]):
        raise NoLetter("no letter can come behind one whose body is a rest")
    return "".join([written(letter, book) for letter in letters])


def frame_text(fields, body):
    """All of a letter or part behind its first row."""
    return fields_text(fields) + end_row(body) + ROW_END + body_text(body)


def fields_text(fields):
    """The rows of ordinary fields."""
    return "".join([field_row(name, value) for name, value in fields])


def field_row(name, value):
    """One row of a name and a value."""
    return name + ": " + value + ROW_END


def end_row(body):
    """The row that tells how the body ends; a body of none has no such row."""
    kind = body[0]
    if kind == "none":
        return ""
    if kind == "length":
        return field_row(kind, figures_of(len(body[1]), 10))
    return field_row(kind, "yes")


def body_text(body):
    """The writing of a body."""
    kind = body[0]
    if kind == "none":
        return ""
    if kind == "pieces":
        return pieces_text(body[1], body[2])
    if kind == "parts":
        return parts_text(body[1])
    return body[1]


def pieces_text(texts, trail):
    """The writing of pieces and of the fields behind them."""
    pieces = "".join([figures_of(len(text), 16) + ROW_END + text + ROW_END for text in texts])
    return pieces + "0" + ROW_END + fields_text(trail) + ROW_END


def parts_text(parts):
    """The writing of parts, each with a row ahead of it, and the row that ends them."""
    rows = "".join(["+" + ROW_END + frame_text(fields, body) for fields, body in parts])
    return rows + "-" + ROW_END
