"""Promises 2, 5, 9 and 10: how letters are written, and what is refused."""

import itertools
import unittest

from framepost.errors import NoLetter
from framepost.signs import USUAL
from framepost.writer import written, written_all
from helper import NONE, nested, rows

ASK = ("ask", (), NONE)
TELL = ("tell", (("to", "bob"),), ("length", "hi"))
REST = ("tell", (), ("rest", "on;\nand on"))
BARE_REST = ("tell", (), ("rest", ""))
TOO_LONG = ("abcdefghi", (), NONE)


class Bodies(unittest.TestCase):
    def told(self, body, *head):
        """What is written of a letter with this body, behind its word and these rows."""
        text = written(("ask", (), body))
        start = rows("ask", *head, "")
        self.assertEqual(text[:len(start)], start)
        return text[len(start):]

    def test_the_example_of_the_document(self):
        letter = ("ask", (("to", "bob"),), ("pieces", ("hi\n", "x"), (("sum", "4"),)))
        self.assertEqual(
            written(letter), "ask;\nto: bob;\npieces: yes;\n;\n3;\nhi\n;\n1;\nx;\n0;\nsum: 4;\n;\n")

    def test_the_answer_is_a_text(self):
        self.assertIs(type(written(ASK)), str)
        self.assertIs(type(written_all([ASK])), str)

    def test_none(self):
        self.assertEqual(written(ASK), "ask;\n;\n")

    def test_fields_in_their_order(self):
        letter = ("ask", (("to", "bob"), ("a", "x: y  z"), ("to", "al"), ("b", ":")), NONE)
        self.assertEqual(written(letter), "ask;\nto: bob;\na: x: y  z;\nto: al;\nb: :;\n;\n")

    def test_the_end_row_stands_behind_the_fields(self):
        letter = ("ask", (("z", "1"), ("a", "2")), ("length", "hi"))
        self.assertEqual(written(letter), "ask;\nz: 1;\na: 2;\nlength: 2;\n;\nhi")

    def test_length(self):
        self.assertEqual(self.told(("length", ""), "length: 0"), "")
        self.assertEqual(self.told(("length", "hi\n"), "length: 3"), "hi\n")

    def test_length_is_told_to_the_base_ten(self):
        for number in (9, 10, 15, 16, 17, 99, 100, 400):
            self.assertEqual(self.told(("length", "x" * number), "length: " + str(number)), "x" * number)

    def test_rest(self):
        self.assertEqual(self.told(("rest", ""), "rest: yes"), "")
        self.assertEqual(self.told(("rest", "a;\n\nb "), "rest: yes"), "a;\n\nb ")

    def test_pieces(self):
        self.assertEqual(self.told(("pieces", (), ()), "pieces: yes"), "0;\n;\n")
        self.assertEqual(self.told(("pieces", ("ab", "c"), ()), "pieces: yes"), "2;\nab;\n1;\nc;\n0;\n;\n")
        self.assertEqual(
            self.told(("pieces", (), (("b", "1"), ("a", "2"))), "pieces: yes"), "0;\nb: 1;\na: 2;\n;\n")

    def test_pieces_are_told_to_the_base_sixteen(self):
        for number, figures in ((9, "9"), (10, "a"), (15, "f"), (16, "10"), (17, "11"), (255, "ff"), (400, "190")):
            body = ("pieces", ("x" * number,), ())
            self.assertEqual(self.told(body, "pieces: yes"), rows(figures, "x" * number, "0", ""))

    def test_texts_that_look_like_rows_stand_as_they_are(self):
        for text in (";\n", "0;\n;\n", "-;\n", "+;\n;\n", "ask;\n;\n", "length: 3;\n;\nabc", "\n", ";", " ", "a: b;\n"):
            self.assertEqual(self.told(("length", text), "length: " + str(len(text))), text)
            self.assertEqual(self.told(("rest", text), "rest: yes"), text)
            self.assertEqual(
                self.told(("pieces", (text, text), ()), "pieces: yes"), rows(f"{len(text):x}", text) * 2 + rows("0", ""))

    def test_parts(self):
        self.assertEqual(self.told(("parts", ()), "parts: yes"), "-;\n")
        self.assertEqual(self.told(("parts", (((), NONE),)), "parts: yes"), "+;\n;\n-;\n")
        body = ("parts", (
            ((("n", "1"), ("m", "2")), ("length", "hi")),
            ((), ("pieces", ("abc",), (("t", "3"),))),
            ((("n", "4"),), NONE),
        ))
        self.assertEqual(self.told(body, "parts: yes"), (
            "+;\nn: 1;\nm: 2;\nlength: 2;\n;\nhi"
            "+;\npieces: yes;\n;\n3;\nabc;\n0;\nt: 3;\n;\n"
            "+;\nn: 4;\n;\n"
            "-;\n"
        ))

    def test_parts_within_parts(self):
        inner = ("parts", (((("n", "2"),), ("length", "-;\n")), ((), ("parts", ()))))
        body = ("parts", (((("n", "1"),), inner), ((), NONE)))
        self.assertEqual(self.told(body, "parts: yes"), (
            "+;\nn: 1;\nparts: yes;\n;\n"
            "+;\nn: 2;\nlength: 3;\n;\n-;\n"
            "+;\nparts: yes;\n;\n-;\n"
            "-;\n"
            "+;\n;\n"
            "-;\n"
        ))

    def test_parts_as_deep_as_a_book_may_allow(self):
        start = "ask;\nparts: yes;\n;\n" + "+;\nparts: yes;\n;\n" * 19 + "+;\n;\n"
        self.assertEqual(written(("ask", (), nested(20)), (8, 12, 40, 12, 400, 20, 20)), start + "-;\n" * 20)


class Refusals(unittest.TestCase):
    def test_a_letter_that_does_not_keep_the_usual_book(self):
        wrong = (
            TOO_LONG,
            ("", (), NONE),
            ("Ask", (), NONE),
            ("ask", (("to", ""),), NONE),
            ("ask", (("to", " bob"),), NONE),
            ("ask", (("to", "a;b"),), NONE),
            ("ask", (("rest", "yes"),), NONE),
            ("ask", (("n", "v"),) * 13, NONE),
            ("ask", (("n", "v"),) * 7, ("pieces", (), (("n", "v"),) * 6)),
            ("ask", (), ("length", "x" * 401)),
            ("ask", (), ("rest", "x" * 401)),
            ("ask", (), ("pieces", ("x" * 400, "x"), ())),
            ("ask", (), ("parts", (((), NONE),) * 13)),
            ("ask", (), ("parts", (((), ("rest", "")),))),
        )
        for letter in wrong:
            with self.subTest(letter=letter):
                with self.assertRaises(NoLetter):
                    written(letter)
                with self.assertRaises(NoLetter):
                    written_all([letter])
                with self.assertRaises(NoLetter):
                    written_all([ASK, letter])
                with self.assertRaises(NoLetter):
                    written_all([letter, ASK])

    def test_the_book_left_out_or_none_is_the_usual_one(self):
        for letters in ([], [ASK], [ASK, TELL, REST]):
            self.assertEqual(written_all(letters), written_all(letters, USUAL))
            self.assertEqual(written_all(letters, None), written_all(letters, USUAL))
            self.assertEqual(written_all(letters, book=None), written_all(letters, book=USUAL))
        self.assertEqual(written(TELL), written(TELL, None))
        self.assertEqual(written(TELL), written(TELL, book=USUAL))
        for told in ((), (None,), (USUAL,)):
            with self.assertRaises(NoLetter):
                written(TOO_LONG, *told)
            with self.assertRaises(NoLetter):
                written_all([ASK, TOO_LONG], *told)

    def test_another_book(self):
        smaller = (4, 2, 3, 1, 2, 0, 0)
        self.assertEqual(written(TELL, smaller), written(TELL))
        self.assertEqual(written_all([TELL, ASK], smaller), written(TELL) + written(ASK))
        for place in (0, 1, 2, 3, 4):
            book = tuple(number - (at == place) for at, number in enumerate(smaller))
            with self.assertRaises(NoLetter):
                written(TELL, book)
            with self.assertRaises(NoLetter):
                written_all([("a", (), NONE), TELL], book)
        greater = (9, 12, 40, 12, 400, 12, 6)
        self.assertEqual(written(TOO_LONG, greater), "abcdefghi;\n;\n")
        self.assertEqual(written_all([TOO_LONG, ASK], greater), "abcdefghi;\n;\nask;\n;\n")

    def test_a_rest_may_be_the_last_one_alone(self):
        for rest in (REST, BARE_REST):
            self.assertEqual(written_all([rest]), written(rest))
            self.assertEqual(written_all([ASK, TELL, rest]), written(ASK) + written(TELL) + written(rest))
            for letters in ([rest, ASK], [rest, rest], [ASK, rest, TELL], [rest, ASK, rest]):
                with self.assertRaises(NoLetter):
                    written_all(letters)


class Several(unittest.TestCase):
    def test_no_letters(self):
        self.assertEqual(written_all([]), "")
        self.assertEqual(written_all([], (1, 1, 1, 0, 0, 0, 0)), "")

    def test_one_right_behind_the_other(self):
        self.assertEqual(written_all([ASK]), "ask;\n;\n")
        self.assertEqual(
            written_all([ASK, TELL, ASK, ASK]), "ask;\n;\ntell;\nto: bob;\nlength: 2;\n;\nhiask;\n;\nask;\n;\n")

    def test_the_list_handed_in_stays_as_it_was(self):
        for letters in ([], [ASK], [TELL, ASK, REST], [REST, ASK], [ASK, TOO_LONG]):
            before = list(letters)
            try:
                written_all(letters)
            except NoLetter:
                pass
            self.assertEqual(letters, before)
            self.assertTrue(all(one is other for one, other in zip(letters, before)))

    def test_what_is_done_to_a_list_changes_no_later_answer(self):
        letters = [ASK, TELL]
        first = written_all(letters)
        letters.append(REST)
        self.assertEqual(written_all([ASK, TELL]), first)
        letters.clear()
        self.assertEqual(written_all([ASK, TELL]), first)


class Unlike(unittest.TestCase):
    """Promise 5 as far as it speaks of writing."""

    TEXTS = ("", "a", "aa", ";\n", "0;\n;\n", "-;\n", "a;\n;\n", "n: v;\n;\n", "+;\n;\n-;\n")
    FIELDS = ((), (("n", "v"),), (("n", "n: v"),), (("nn", "v"),), (("n", "v"), ("n", "v")), (("yes", "0"),))

    def simple_bodies(self):
        bodies = [NONE]
        bodies += [("length", text) for text in self.TEXTS]
        bodies += [("pieces", texts, trail) for size in range(3)
                   for texts in itertools.product(self.TEXTS[1:5], repeat=size) for trail in self.FIELDS[:3]]
        return bodies

    def bodies(self):
        simple = self.simple_bodies()
        parts = [(fields, body) for fields in self.FIELDS[:2] for body in simple[:12]]
        parts += [((), ("parts", ())), ((), ("parts", (((), NONE),))), ((), ("parts", (((), NONE), ((), NONE))))]
        groups = [("parts", group) for size in range(3) for group in itertools.product(parts, repeat=size)]
        return simple + [("rest", text) for text in self.TEXTS] + groups

    def assert_unlike(self, things, writings):
        self.assertEqual(len(set(things)), len(things))
        self.assertEqual(len(set(writings)), len(things))

    def test_unlike_letters(self):
        letters = [(word, fields, body) for word in ("a", "aa", "rest") for fields in self.FIELDS
                   for body in self.bodies()]
        self.assert_unlike(letters, [written(letter) for letter in letters])

    def test_unlike_lists_of_letters(self):
        letters = [(word, fields, body) for word in ("a", "aa") for fields in self.FIELDS[:2]
                   for body in self.simple_bodies()[:10]]
        lists = [list(some) for size in range(3) for some in itertools.product(letters, repeat=size)]
        lists += [some + [("a", (), ("rest", text))] for some in lists[:50] for text in self.TEXTS]
        self.assert_unlike([tuple(some) for some in lists], [written_all(some) for some in lists])


if __name__ == "__main__":
    unittest.main()
