"""What a beginning of a road is worth."""

from framepost.errors import Refused
from framepost.reader import Reader


def verdict(road, book=None):
    """("hopeless", at), ("whole",), or ("hopeful", text) with some text that finishes the letter in hand."""
    reader = Reader(book)
    try:
        reader.feed(road)
    except Refused as refusal:
        return ("hopeless", refusal.at)
    if reader.may_end():
        return ("whole",)
    return ("hopeful", reader.awaited())
