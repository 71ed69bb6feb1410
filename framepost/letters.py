"""The form of letters, and when a letter keeps a book."""

from framepost.signs import END_NAMES, MOST_BODY, MOST_DEEP, MOST_FIELDS, MOST_NAME, MOST_PARTS, MOST_VALUE, MOST_WORD
from framepost.signs import book_or_usual, is_plain, is_small


def keeps(letter, book=None):
    """Whether a letter, a tuple (word, fields, body), keeps the book."""
    limits = book_or_usual(book)
    body = letter[2]
    if not is_word(letter[0], limits[MOST_WORD]):
        return False
    return frame_keeps(letter[1], body, limits) and parts_keep(body, limits)


def is_word(text, most):
    """Whether a text is 1 to so many small letters."""
    return 1 <= len(text) <= most and all([is_small(sign) for sign in text])


def is_name(text, most):
    """Whether a text may be the name of an ordinary field."""
    return is_word(text, most) and text not in END_NAMES


def is_value(text, most):
    """Whether a text may be the value of an ordinary field."""
    if not 1 <= len(text) <= most:
        return False
    if text[0] == " " or text[-1] == " ":
        return False
    return all([is_plain(sign) and sign not in (";", "\n") for sign in text])


def texts_of(body):
    """The texts that a body itself holds, without those of its parts."""
    if body[0] == "pieces":
        return body[1]
    if body[0] in ("length", "rest"):
        return (body[1],)
    return ()


def trail_of(body):
    """The fields that a body itself holds, without those of its parts."""
    return body[2] if body[0] == "pieces" else ()


def parts_of(body):
    """The parts straight within a body."""
    return body[1] if body[0] == "parts" else ()


def frame_keeps(fields, body, book):
    """Whether the fields and the body of a letter or part, but for the parts in it, keep the book."""
    together = fields + trail_of(body)
    return (
        len(together) <= book[MOST_FIELDS]
        and all([field_keeps(field, book) for field in together])
        and texts_keep(body, book[MOST_BODY])
    )


def field_keeps(field, book):
    """Whether an ordinary field, a pair (name, value), keeps the book."""
    return is_name(field[0], book[MOST_NAME]) and is_value(field[1], book[MOST_VALUE])


def texts_keep(body, most):
    """Whether a body's own texts have together at most so many signs, and only such as a road has."""
    texts = texts_of(body)
    if sum([len(text) for text in texts]) > most:
        return False
    # A piece without signs would be written like the end of the pieces.
    if body[0] == "pieces" and "" in texts:
        return False
    return all([is_road(text) for text in texts])


def is_road(text):
    """Whether a text has only signs that may stand on a road."""
    return all([is_plain(sign) for sign in text])


def parts_keep(body, book):
    """Whether all parts within a letter's body, at whatever depth, keep the book."""
    level = list(parts_of(body))
    count = 0
    deep = 0
    # Depth by depth, so that a letter nested far too deep is told False and not walked to its ground.
    while level:
        deep = deep + 1
        count = count + len(level)
        if deep > book[MOST_DEEP] or count > book[MOST_PARTS]:
            return False
        if not all([part_keeps(part, book) for part in level]):
            return False
        level = parts_below(level)
    return True


def part_keeps(part, book):
    """Whether a part, a tuple (fields, body), keeps the book, but for the parts in it."""
    return part[1][0] != "rest" and frame_keeps(part[0], part[1], book)


def parts_below(level):
    """The parts that lie one deeper than these, straight within their bodies."""
    below = []
    for part in level:
        below.extend(parts_of(part[1]))
    return below
