"""Promises 7 and 8: the form of letters, and when a letter keeps a book."""

import unittest

from framepost.letters import keeps
from framepost.signs import END_NAMES, USUAL
from helper import NONE, PLAIN, fields, nested


def flat(count):
    return ("parts", tuple(((), NONE) for number in range(count)))


class Keeping(unittest.TestCase):
    def kept(self, letter, book=None):
        self.assertIs(keeps(letter, book), True, repr((letter, book)))

    def broken(self, letter, book=None):
        self.assertIs(keeps(letter, book), False, repr((letter, book)))

    def word(self, word):
        return (word, (), NONE)

    def name(self, name):
        return ("ask", ((name, "v"),), NONE)

    def value(self, value):
        return ("ask", (("n", value),), NONE)

    def body(self, body):
        return ("ask", (), body)

    def part(self, part_fields, body):
        return self.body(("parts", ((part_fields, body),)))


class Forms(Keeping):
    def test_the_example_of_the_document(self):
        self.kept(("ask", (("to", "bob"),), ("pieces", ("hi\n", "x"), (("sum", "4"),))))

    def test_each_sort_of_body(self):
        for body in (NONE, ("length", ""), ("length", "abc"), ("pieces", (), ()), ("pieces", ("a", "bc"), ()),
                     ("parts", ()), ("parts", (((), NONE),)), ("rest", ""), ("rest", "abc")):
            self.kept(self.body(body))

    def test_texts_of_bodies_are_of_any_signs(self):
        for body in (("length", PLAIN), ("rest", PLAIN), ("pieces", (PLAIN,), ()), ("pieces", tuple(PLAIN), ())):
            self.kept(self.body(body))

    def test_a_piece_without_signs_is_none(self):
        for texts in (("",), ("a", ""), ("", "a"), ("a", "", "b")):
            self.broken(self.body(("pieces", texts, ())))
            self.broken(self.part((), ("pieces", texts, ())))

    def test_the_book_left_out_is_the_usual_one(self):
        just, beyond = self.word("a" * 8), self.word("a" * 9)
        self.assertIs(keeps(just), True)
        self.assertIs(keeps(beyond), False)
        self.assertIs(keeps(just, None), True)
        self.assertIs(keeps(beyond, None), False)
        self.assertIs(keeps(just, USUAL), True)
        self.assertIs(keeps(beyond, book=USUAL), False)

    def test_nothing_of_a_call_is_left_for_the_next_one(self):
        letter = self.body(nested(3))
        smaller = (8, 12, 40, 12, 400, 12, 2)
        for number in range(3):
            self.kept(letter)
            self.broken(letter, smaller)


class Words(Keeping):
    def test_length(self):
        self.kept(self.word("a"))
        self.kept(self.word("abcdwxyz"))
        self.broken(self.word("abcdwxyza"))
        self.kept(self.word("a"), (1, 12, 40, 12, 400, 12, 6))
        self.broken(self.word("ab"), (1, 12, 40, 12, 400, 12, 6))
        self.kept(self.word("a" * 1000), (1000, 12, 40, 12, 400, 12, 6))
        self.broken(self.word("a" * 1001), (1000, 12, 40, 12, 400, 12, 6))

    def test_wrong_words(self):
        for word in ("", "Ask", "asK", "ask1", "1", "a sk", " ask", "ask ", "a-k", "a:k", "a;k", "ask\n", "\n", "a\xe9"):
            self.broken(self.word(word))

    def test_an_end_name_may_be_a_word(self):
        for word in END_NAMES:
            self.kept(self.word(word))


class Names(Keeping):
    def test_length(self):
        self.kept(self.name("n"))
        self.kept(self.name("abcdefuvwxyz"))
        self.broken(self.name("abcdefuvwxyza"))
        self.kept(self.name("n"), (8, 1, 40, 12, 400, 12, 6))
        self.broken(self.name("nn"), (8, 1, 40, 12, 400, 12, 6))

    def test_wrong_names_wherever_a_field_stands(self):
        wrong = ("", "To", "tO", "to1", "1", "t o", " to", "to ", "t-o", "to:", "to;", "to\n", "\n", "t\xe9")
        for name in wrong + END_NAMES:
            bad = ((name, "v"),)
            for more in (bad, (("n", "v"),) + bad, bad + (("n", "v"),)):
                self.broken(("ask", more, NONE))
                self.broken(self.body(("pieces", (), more)))
                self.broken(self.part(more, NONE))
                self.broken(self.part((), ("pieces", (), more)))
                self.broken(self.body(nested(2, ("parts", ((more, NONE),)))))

    def test_names_that_begin_or_end_like_an_end_name(self):
        for name in ("lengt", "lengths", "piece", "apieces", "part", "partss", "res", "rests", "yes"):
            self.kept(self.name(name))

    def test_a_name_may_stand_twice(self):
        self.kept(("ask", (("n", "v"), ("n", "v")), ("pieces", (), (("n", "v"),))))


class Values(Keeping):
    def test_length(self):
        self.kept(self.value("v"))
        self.kept(self.value("v" * 40))
        self.broken(self.value("v" * 41))
        self.kept(self.value("v"), (8, 12, 1, 12, 400, 12, 6))
        self.broken(self.value("vv"), (8, 12, 1, 12, 400, 12, 6))

    def test_each_sign(self):
        for sign in PLAIN:
            inner = self.value("a" + sign + "a")
            alone = self.value(sign)
            if sign in ";\n":
                self.broken(inner)
                self.broken(alone)
            elif sign == " ":
                self.kept(inner)
                self.broken(alone)
            else:
                self.kept(inner)
                self.kept(alone)

    def test_wrong_values_wherever_a_field_stands(self):
        for value in ("", " ", "  ", " v", "v ", " v ", ";", "a;b", "v;", ";v", "\n", "a\nb", "v\n", "\nv", "a\tb"):
            bad = (("n", value),)
            for more in (bad, (("n", "v"),) + bad, bad + (("n", "v"),)):
                self.broken(("ask", more, NONE))
                self.broken(self.body(("pieces", (), more)))
                self.broken(self.part(more, NONE))
                self.broken(self.part((), ("pieces", (), more)))

    def test_blanks_within_a_value_count(self):
        self.kept(self.value("a" + " " * 38 + "a"))
        self.broken(self.value("a" + " " * 39 + "a"))


class Counts(Keeping):
    def test_fields_of_a_letter(self):
        self.kept(("ask", fields(12), NONE))
        self.broken(("ask", fields(13), NONE))
        none = (8, 12, 40, 0, 400, 12, 6)
        for body in (NONE, ("length", "a"), ("pieces", ("a",), ()), ("parts", (((), NONE),)), ("rest", "a")):
            self.kept(self.body(body), none)
            self.broken(("ask", fields(1), body), none)

    def test_the_end_row_is_no_field(self):
        for body in (("length", "a"), ("pieces", (), ()), ("parts", ()), ("rest", "")):
            self.kept(("ask", fields(12), body))
            self.broken(("ask", fields(13), body))

    def test_fields_and_trail_of_a_letter_together(self):
        for own in range(13):
            self.kept(("ask", fields(own), ("pieces", ("a",), fields(12 - own))))
            self.broken(("ask", fields(own), ("pieces", ("a",), fields(13 - own))))

    def test_fields_and_trail_of_a_part_together(self):
        for own in range(13):
            self.kept(self.part(fields(own), ("pieces", ("a",), fields(12 - own))))
            self.broken(self.part(fields(own), ("pieces", ("a",), fields(13 - own))))

    def test_the_fields_of_a_letter_and_of_its_parts_are_counted_apart(self):
        part = (fields(6), ("pieces", ("a",), fields(6)))
        self.kept(("ask", fields(12), ("parts", (part, part, (fields(12), ("parts", (part,)))))))

    def test_signs_of_a_length_and_a_rest(self):
        for kind in ("length", "rest"):
            self.kept(self.body((kind, "a" * 400)))
            self.broken(self.body((kind, "a" * 401)))
            self.kept(self.body((kind, "")), (8, 12, 40, 12, 0, 12, 6))
            self.broken(self.body((kind, "a")), (8, 12, 40, 12, 0, 12, 6))

    def test_signs_of_pieces_together(self):
        for first in (1, 200, 399):
            self.kept(self.body(("pieces", ("a" * first, "b" * (400 - first)), ())))
            self.broken(self.body(("pieces", ("a" * first, "b" * (401 - first)), ())))
        self.kept(self.body(("pieces", ("a",) * 400, ())))
        self.broken(self.body(("pieces", ("a",) * 401, ())))
        self.kept(self.body(("pieces", (), ())), (8, 12, 40, 12, 0, 12, 6))
        self.broken(self.body(("pieces", ("a",), ())), (8, 12, 40, 12, 0, 12, 6))

    def test_the_trail_is_not_counted_as_signs_of_the_body(self):
        self.kept(self.body(("pieces", ("a" * 400,), fields(12))))

    def test_signs_of_bodies_in_parts_are_counted_for_each(self):
        full = (((), ("length", "a" * 400)), ((), ("pieces", ("a" * 399, "b"), ())))
        self.kept(self.body(("parts", full)))
        self.broken(self.part((), ("length", "a" * 401)))
        self.broken(self.part((), ("pieces", ("a" * 400, "b"), ())))
        self.broken(self.body(nested(3, ("length", "a" * 401))))


class Parts(Keeping):
    def test_parts_side_by_side(self):
        self.kept(self.body(flat(12)))
        self.broken(self.body(flat(13)))
        self.kept(self.body(("parts", ())), (8, 12, 40, 12, 400, 0, 6))
        self.broken(self.body(flat(1)), (8, 12, 40, 12, 400, 0, 6))

    def test_parts_are_counted_together_at_whatever_depth(self):
        twelve = (((), flat(5)), ((), flat(5)))
        self.kept(self.body(("parts", twelve)))
        self.broken(self.body(("parts", twelve + (((), NONE),))))
        self.broken(self.body(("parts", (((), flat(5)), ((), flat(6))))))
        three = (8, 12, 40, 12, 400, 3, 6)
        self.kept(self.body(nested(3)), three)
        self.broken(self.body(nested(4)), three)
        self.kept(self.body(("parts", (((), flat(1)), ((), NONE)))), three)
        self.broken(self.body(("parts", (((), flat(1)), ((), flat(1))))), three)

    def test_depth(self):
        self.kept(self.body(nested(6)))
        self.broken(self.body(nested(7)))
        for deep in range(4):
            book = (8, 12, 40, 12, 400, 12, deep)
            self.kept(self.body(nested(deep)), book)
            self.broken(self.body(nested(deep + 1)), book)

    def test_depth_is_that_of_the_deepest_part(self):
        book = (8, 12, 40, 12, 400, 12, 2)
        self.kept(self.body(("parts", (((), NONE), ((), nested(1)), ((), NONE)))), book)
        self.broken(self.body(("parts", (((), NONE), ((), nested(2)), ((), NONE)))), book)

    def test_the_greatest_book(self):
        book = (1000, 1000, 1000, 1000, 1000, 1000, 20)
        self.kept(self.body(nested(20)), book)
        self.broken(self.body(nested(21)), book)
        self.kept(self.body(flat(1000)), book)
        self.broken(self.body(flat(1001)), book)

    def test_a_body_of_no_parts_may_stand_anywhere(self):
        self.kept(self.body(("parts", ())), (8, 12, 40, 12, 400, 0, 0))
        self.kept(self.body(nested(2, ("parts", ()))), (8, 12, 40, 12, 400, 2, 2))
        self.kept(self.body(nested(6, ("parts", ()))))
        self.broken(self.body(flat(1)), (8, 12, 40, 12, 400, 12, 0))

    def test_rest_is_the_body_of_no_part(self):
        for text in ("", "abc"):
            self.kept(self.body(("rest", text)))
            self.broken(self.part((), ("rest", text)))
            self.broken(self.body(nested(3, ("rest", text))))
            self.broken(self.body(("parts", (((), NONE), ((), ("rest", text))))))

    def test_a_fault_in_any_part_counts(self):
        bad = ((("n", ""),), NONE)
        good = ((("n", "v"),), NONE)
        for parts in ((bad, good), (good, bad), (good, ((), ("parts", (good, bad)))), (((), ("parts", (bad,))), good)):
            self.broken(self.body(("parts", parts)))
        self.kept(self.body(("parts", (good, ((), ("parts", (good, good)))))))

    def test_a_letter_far_too_deep_or_too_full_is_told_at_once(self):
        # Without a message: such a letter can't be shown.
        self.assertIs(keeps(self.body(nested(20000))), False)
        doubled = NONE
        for number in range(60):
            doubled = ("parts", (((), doubled), ((), doubled)))
        self.assertIs(keeps(self.body(doubled), (8, 12, 40, 12, 400, 1000, 20)), False)


if __name__ == "__main__":
    unittest.main()
