"""The strict reader of a road of letters."""

from framepost.bodies import Frame, Tally
from framepost.errors import Cut, Refused
from framepost.marks import Closed, Word
from framepost.signs import MOST_PARTS, MOST_WORD, ROW_END, book_or_usual


class LetterInHand:
    """One letter, read sign by sign."""

    def __init__(self, book):
        self.word = Closed(Word(book[MOST_WORD]), ROW_END)
        self.frame = Frame(book, 0, Tally(book[MOST_PARTS]))

    def fed(self, sign):
        if self.word.good():
            return self.frame.fed(sign)
        return self.word.fed(sign)

    def whole(self):
        return self.frame.whole()

    def is_open(self):
        return self.frame.is_open()

    def awaited(self):
        return self.word.awaited() + self.frame.awaited()

    def told(self):
        return (self.word.told(),) + self.frame.told()


class Reader:
    """Reads a road, fed in pieces of any size, to its letters."""

    def __init__(self, book=None):
        self.book = book_or_usual(book)
        self.kept = []
        self.letter = LetterInHand(self.book)
        self.taken = 0
        self.taken_in_hand = 0
        self.refused_at = None
        self.is_finished = False

    def feed(self, text):
        self.refuse_again()
        for sign in text:
            if self.is_finished or not self.letter.fed(sign):
                self.refused_at = self.taken
                raise Refused(self.taken)
            self.taken = self.taken + 1
            self.taken_in_hand = self.taken_in_hand + 1
            # Signs may still come to a letter whose body is a rest.
            if self.letter.whole() and not self.letter.is_open():
                self.keep_letter()

    def refuse_again(self):
        """Refuses at the sign that was refused before, if one was."""
        if self.refused_at is not None:
            raise Refused(self.refused_at)

    def keep_letter(self):
        """Keeps the letter in hand, which is whole, and begins a new one."""
        self.kept.append(self.letter.told())
        self.letter = LetterInHand(self.book)
        self.taken_in_hand = 0

    def letters(self):
        return list(self.kept)

    def in_hand(self):
        return self.taken_in_hand

    def may_end(self):
        return self.refused_at is None and (self.taken_in_hand == 0 or self.letter.is_open())

    def awaited(self):
        self.refuse_again()
        return "" if self.may_end() else self.letter.awaited()

    def finish(self):
        self.refuse_again()
        if not self.may_end():
            raise Cut(self.taken)
        if self.letter.is_open():
            self.keep_letter()
        self.is_finished = True


def read_all(road, book=None):
    """The letters of a whole road; refused as its feeding or its finish is."""
    reader = Reader(book)
    reader.feed(road)
    reader.finish()
    return reader.letters()
