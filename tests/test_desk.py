"""Promises 27 and 28: the desk."""

import unittest

from framepost.desk import Desk
from framepost.errors import Cut, FrameError, NoRow, NoRule, Refused, Unread
from framepost.hope import verdict
from framepost.lax import SWITCHES, parting, read_lax
from framepost.posts import Post
from framepost.signs import USUAL
from framepost.writer import written, written_all
from helper import ASK, EMPTY, LISTS, PARTS, PIECES, PLAIN, REST, SMALL_BOOKS, TELL, Maker, roads_amiss

VERBS = ("book", "feed", "end", "letter", "awaited", "try", "put", "drop", "length", "pieces", "hand", "done", "fault",
         "lax")
LEAST, GREATEST = (1, 1, 1, 0, 0, 0, 0), (1000, 1000, 1000, 1000, 1000, 1000, 20)


def shown(signs):
    """Signs as they are told and answered at the desk, sign by sign."""
    return "".join({"\n": "\\n", "\\": "\\\\"}.get(sign, sign) for sign in signs)


def book_row(book):
    return "book " + " ".join(str(number) for number in book)


class AtTheDesk(unittest.TestCase):
    def setUp(self):
        self.desk = Desk()

    def says(self, row, want):
        told = self.desk.say(row)
        self.assertIs(type(told), str)
        self.assertEqual(told, want, repr(row))

    def refuses(self, row, error, at=None):
        with self.assertRaises(error, msg=repr(row)) as caught:
            self.desk.say(row)
        self.assertIs(type(caught.exception), error)
        if at is not None:
            self.assertEqual(caught.exception.at, at, repr(row))

    def state(self):
        """What the desk tells when nothing is told to it but questions."""
        told = []
        for row in ("letter 0", "letter 1", "letter 2", "awaited", "fault", "try ask", "try abcdefghi",
                    "lax 2 ABCDEFGHI"):
            try:
                told.append(self.desk.say(row))
            except FrameError as error:
                told.append((type(error), getattr(error, "at", None)))
        return told


class Signs(AtTheDesk):
    def test_told_and_answered(self):
        self.says("feed tell;\\nlength: 4;\\n;\\n\\\\n\\n\\\\", "1")
        self.says("letter 0", "tell;\\nlength: 4;\\n;\\n\\\\n\\n\\\\")
        self.says("hand tell;\\nlength: 4;\\n;\\n\\\\n\\n\\\\", "tell;\\nlength: 4;\\n;\\n\\\\n\\n\\\\")
        self.says("lax - tell;\\nlength: 1;\\n;\\n\\\\", "1")
        self.says("try tell;\\nlength: 1;\\n;\\n\\\\", "whole")

    def test_each_sign(self):
        for sign in PLAIN:
            self.says("feed " + shown("a;\nlength: 1;\n;\n" + sign), str(PLAIN.index(sign) + 1))
            self.says("letter " + str(PLAIN.index(sign)), shown("a;\nlength: 1;\n;\n" + sign))

    def test_blanks_in_signs(self):
        self.says("feed a;\\nlength: 4;\\n;\\n  x ", "1")
        self.says("letter 0", "a;\\nlength: 4;\\n;\\n  x ")
        self.says("try a;\\nlength: 2;\\n;\\n  ", "whole")
        self.says("try  a", "hopeless 0")
        self.says("lax - a;\\nlength: 2;\\n;\\n  ", "1")
        self.says("hand a;\\nlength: 2;\\n;\\n  ", "a;\\nlength: 2;\\n;\\n  ")
        self.refuses("feed  a", Refused, 20)

    def test_signs_that_are_none(self):
        for ahead in ("feed ", "try ", "hand ", "put to ", "lax - ", "lax 0,1 "):
            for signs in ("", "\\", "a\\", "\\\\\\", "\\a", "\\N", "\\ n", "a\\tb", "\n", "a\nb", "a\n", "\\\n",
                          "\\x0a", "\\;"):
                self.refuses(ahead + signs, NoRow)
            self.refuses(ahead[:-1], NoRow)
        self.assertEqual(self.state()[3:5], ["", "none"])


class Reading(AtTheDesk):
    def test_feed_end_and_letter(self):
        letters = [TELL, PIECES, PARTS, EMPTY, ASK]
        for count, letter in enumerate(letters):
            road = written(letter)
            self.says("feed " + shown(road[:4]), str(count))
            self.says("feed " + shown(road[4:]), str(count + 1))
        self.says("feed " + shown(written(REST)), "5")
        self.says("end", "6")
        for number, letter in enumerate(letters + [REST]):
            self.says(f"letter {number}", shown(written(letter)))
        self.refuses("letter 6", NoRow)

    def test_an_end_at_once(self):
        self.says("end", "0")
        self.refuses("letter 0", NoRow)

    def test_awaited(self):
        self.says("awaited", "")
        for road in ("ask", "ask;", "ask;\nlength: 3", "ask;\npieces: yes;\n;\n2;\n\\", "ask;\nrest",
                     "tell;\nparts: yes;\n;\n+"):
            self.says(book_row(USUAL), "ok")
            self.desk.say("feed " + shown("ask;\n;\n" + road))
            told = self.desk.say("awaited")
            self.assertEqual(told, shown(verdict("ask;\n;\n" + road)[1]))
            self.assertEqual(self.desk.say("awaited"), told)
            self.says("feed " + told, "1" if "rest: yes" in road + told else "2")
            self.says("awaited", "")
        self.says("feed tell;\\nrest: yes;\\n;\\nx", "2")
        self.says("awaited", "")

    def test_where_the_reader_refuses_and_behind_it(self):
        self.says("feed ask;\\n;\\n", "1")
        self.refuses("feed tell;\\n;\\nask;\\n\\n", Refused, 20)
        for row in ("feed a", "feed ;\\n", "end", "awaited"):
            self.refuses(row, Refused, 20)
        self.says("letter 0", "ask;\\n;\\n")
        self.says("letter 1", "tell;\\n;\\n")
        self.refuses("letter 2", NoRow)
        self.says("fault", "none")
        self.says("try ask;\\n;\\n", "whole")
        self.says(book_row(USUAL), "ok")
        self.says("feed ask;\\n;\\n", "1")

    def test_a_letter_cut(self):
        self.says("feed ask;\\n;\\nask;\\n", "1")
        self.refuses("end", Cut, 12)
        self.refuses("end", Cut, 12)
        self.says("awaited", ";\\n")
        self.says("letter 0", "ask;\\n;\\n")

    def test_many_letters(self):
        road = shown("a;\n;\n" * 1200)
        self.says("feed " + road, "1200")
        self.says("letter 1199", "a;\\n;\\n")
        self.refuses("letter 1200", NoRow)
        self.says("lax - " + road, "1200")


class Trying(AtTheDesk):
    def test_verdicts(self):
        self.says("try ask;\\n;\\n", "whole")
        self.says("try tell;\\nrest: yes;\\n;\\nx", "whole")
        self.says("try ask;\\n", "hopeful ;\\n")
        self.says("try ask;\\npieces: yes;\\n;\\n1;\\n\\\\", "hopeful ;\\n0;\\n;\\n")
        self.says("try A", "hopeless 0")
        self.says("try abcdefghi;\\n", "hopeless 8")
        self.says("try ask;\\n;\\nask;\\n\\n", "hopeless 12")

    def test_against_the_verdict(self):
        for book in (USUAL,) + SMALL_BOOKS:
            self.says(book_row(book), "ok")
            maker = Maker(book, 3)
            road = written_all(maker.letters(2), book)[:200]
            for some in [road[:at] for at in range(1, len(road))] + roads_amiss(maker.chance, road, 10):
                if some:
                    told = verdict(some, book)
                    self.says("try " + shown(some), " ".join([told[0]] + [shown(str(part)) for part in told[1:]]))

    def test_a_trial_feeds_no_reader(self):
        self.says("feed as", "0")
        self.says("try A", "hopeless 0")
        self.says("feed k;\\n;\\n", "1")


class Handing(AtTheDesk):
    def test_no_rules_at_first(self):
        self.says("hand ask;\\n", "")
        self.says("hand ;\\ntell;\\nrest: yes;\\n;\\nx", "ask;\\n;\\n")
        self.says("fault", "none")
        self.says("done", "tell;\\nrest: yes;\\n;\\nx")
        self.says("fault", "none")
        self.says("hand ask;\\n;\\n", "")
        self.says("done", "")

    def test_each_rule(self):
        for row, road, want in (
                ("put via post office", "ask;\n;\n", "ask;\nvia: post office;\n;\n"),
                ("put via a\\\\n", "ask;\n;\n", "ask;\nvia: a\\n;\n;\n"),
                                ("put via :", "ask;\n;\n", "ask;\nvia: :;\n;\n"),
                ("drop to", "ask;\nto: bob;\nn: v;\n;\n", "ask;\nn: v;\n;\n"), ("drop rest", "ask;\n;\n", "ask;\n;\n"),
                ("length", "ask;\npieces: yes;\n;\n1;\nx;\n1;\ny;\n0;\nn: v;\n;\n", "ask;\nn: v;\nlength: 2;\n;\nxy"),
                ("pieces 2", "ask;\nlength: 3;\n;\nabc", "ask;\npieces: yes;\n;\n2;\nab;\n1;\nc;\n0;\n;\n"),
                ("pieces 9999", "ask;\nlength: 3;\n;\nabc", "ask;\npieces: yes;\n;\n3;\nabc;\n0;\n;\n")):
            self.says(book_row(USUAL), "ok")
            self.says(row, "ok")
            self.says("hand " + shown(road), shown(want))

    def test_rules_in_the_order_told(self):
        rules = []
        for row, rule in (("put n 1", ("put", "n", "1")), ("drop to", ("drop", "to")), ("put m 2", ("put", "m", "2")),
                          ("pieces 1", ("pieces", 1)), ("put n 3", ("put", "n", "3")),
                          ("drop abcdefghijklmnop", ("drop", "abcdefghijklmnop"))):
            self.says(row, "ok")
            rules.append(rule)
            for letters in LISTS[1:]:
                # One rule more brings a new post; it changes no letter that is turned already.
                self.says("drop nobody", "ok")
                post = Post(rules)
                road = written_all(letters)
                self.says("hand " + shown(road), shown(post.fed(road)))
                self.says("done", shown(post.ended()))
        self.refuses("length", NoRule)

    def test_one_more_rule_is_a_new_post_and_no_new_reader(self):
        self.says("feed ask;\\n;\\nas", "1")
        self.says("hand A", "")
        self.says("fault", "refused 0")
        self.says("put n v", "ok")
        self.says("fault", "none")
        self.says("hand as", "")
        self.says("drop to", "ok")
        self.says("hand ask;\\n;\\n", "ask;\\nn: v;\\n;\\n")
        self.says("done", "")
        self.says("length", "ok")
        self.says("hand ask;\\n;\\n", "ask;\\nn: v;\\n;\\n")
        self.says("feed k;\\n;\\n", "2")

    def test_faults(self):
        self.says("hand ask;\\n;\\nask;\\n!", "ask;\\n;\\n")
        self.says("fault", "refused 12")
        self.says("hand ask;\\n;\\n", "")
        self.says("done", "")
        self.says("fault", "refused 12")
        self.says("drop n", "ok")
        self.says("hand ask;\\n;\\nask", "ask;\\n;\\n")
        self.says("fault", "none")
        self.says("done", "")
        self.says("fault", "cut 10")
        self.says("done", "")
        self.says("fault", "cut 10")

    def test_rules_refused(self):
        self.says("put n v", "ok")
        self.says("drop to", "ok")
        self.says("length", "ok")
        self.says("hand ask;\\n;\\nas", "ask;\\nn: v;\\n;\\n")
        before = self.state()
        for row in ("put length 1", "put pieces yes", "put parts yes", "put rest yes", "put abcdefghijklm v",
                    "put to bob",
                    "put m  v", "put m v ", "put m a;b", "put m \\n", "put m a\\nb", "put m " + "v" * 41, "drop n",
                    "length",
                    "pieces 1", "pieces 0"):
            self.refuses(row, NoRule)
            self.assertEqual(self.state(), before, row)
        # The post is still the same one, within its letter; and the rules are still those three.
        self.says("hand k;\\nto: bob;\\n;\\n", "ask;\\nn: v;\\n;\\n")
        self.says("put x y", "ok")
        self.says("hand ask;\\nto: bob;\\npieces: yes;\\n;\\n0;\\n;\\n", "ask;\\nn: v;\\nx: y;\\nlength: 0;\\n;\\n")

    def test_a_rule_refused_is_none(self):
        self.refuses("pieces 0", NoRule)
        self.says("pieces 1", "ok")
        self.refuses("put rest v", NoRule)
        self.says("drop rest", "ok")
        self.says("hand a;\\nlength: 2;\\n;\\nxy", "a;\\npieces: yes;\\n;\\n1;\\nx;\\n1;\\ny;\\n0;\\n;\\n")

    def test_rules_by_the_book(self):
        self.says("book 1 1 1 1 1 1 1", "ok")
        for row in ("put ab v", "put n vv", "put n v ", "put n \\n"):
            self.refuses(row, NoRule)
        self.says("put n v", "ok")
        self.says("hand a;\\n;\\nb;\\nm: w;\\n;\\n", "a;\\nn: v;\\n;\\nb;\\nm: w;\\n;\\n")
        self.says("book 1 13 41 1 1 1 1", "ok")
        self.says("put abcdefghijklm " + "v" * 41, "ok")


class Lax(AtTheDesk):
    def test_switches_by_their_numbers(self):
        for number, switch in enumerate(SWITCHES):
            road = shown(parting(switch))
            self.refuses("lax - " + road, Unread)
            self.says(f"lax {number} {road}", "1")
            self.says(f"lax {number},{number} {road}", "1")
            self.says("lax 5,4,3,2,1,0 " + road, "1")
            others = [other for other in range(6) if other != number and {other, number} != {4, 5}]
            self.refuses("lax " + ",".join(str(other) for other in others) + " " + road, Unread)

    def test_how_many_letters(self):
        self.says("lax - ask;\\n;\\n", "1")
        self.says("lax 0 a\\n\\nb;\\n\\nc\\n;\\n", "3")
        self.says("lax 4 ask;\\nlength: 7;\\nrest: yes;\\n;\\nask;\\n;\\n", "1")
        self.says("lax 5 ask;\\nlength: 0;\\nlength: 0;\\n;\\nask;\\n;\\n", "2")
        self.assertEqual(len(read_lax(["bare", "great"], "A\n\nB\n\n")), 2)
        self.says("lax 2,0 A\\n\\nB\\n\\n", "2")

    def test_by_the_desks_book(self):
        self.says("lax 2 ABCDEFGH;\\n;\\n", "1")
        self.refuses("lax 2 ABCDEFGHI;\\n;\\n", Unread)
        self.says("book 9 1 1 0 0 0 0", "ok")
        self.says("lax 2 ABCDEFGHI;\\n;\\n", "1")
        self.refuses("lax - a;\\nn: v;\\n;\\n", Unread)

    def test_unread_changes_nothing(self):
        self.says("feed ask;\\n;\\nas", "1")
        before = self.state()
        self.refuses("lax 0,1,2,3,4,5 ask", Unread)
        self.assertEqual(self.state(), before)

    def test_switches_that_are_none(self):
        for word in ("6", "0,6", "9", "10", "00", "01", "0,", ",0", ",", "0,,1", "0;1", "-0", "0,-", "-,0", "--", "+",
                     "+1", "-1", "bare",
                     "a", "0.1", ""):
            self.refuses(f"lax {word} ask;\\n;\\n", NoRow)
        for row in ("lax", "lax ", "lax -", "lax 0", "lax - ", "lax 0 ", "lax  ask;\\n;\\n", "lax ask;\\n;\\n",
                    "lax 0, 1 ask;\\n;\\n"):
            self.refuses(row, NoRow)


class Books(AtTheDesk):
    def test_the_usual_one_at_first(self):
        self.says("try abcdefgh;\\n;\\n", "whole")
        self.says("try abcdefghi", "hopeless 8")
        self.says("feed abcdefgh;\\n", "0")
        self.refuses("feed ;\\nabcdefghi", Refused, 20)

    def test_a_book_told_anew(self):
        self.says("feed ask;\\n;\\nask", "1")
        self.says("put n v", "ok")
        self.says("hand A", "")
        self.says("book 2 3 4 1 5 6 7", "ok")
        self.says("awaited", "")
        self.refuses("letter 0", NoRow)
        self.says("fault", "none")
        self.says("hand ab;\\n;\\n", "ab;\\n;\\n")
        self.says("hand abc", "")
        self.says("fault", "refused 8")
        self.refuses("feed ab;\\nabcd", Refused, 7)
        self.says("try abc", "hopeless 2")
        self.says(book_row(USUAL), "ok")
        self.says("feed ask;\\n;\\n", "1")
        self.says("length", "ok")

    def test_numbers_of_each_place(self):
        for place in range(7):
            for bounds, step in ((LEAST, -1), (GREATEST, 1)):
                self.says(book_row(bounds), "ok")
                beyond = tuple(number + step * (other == place) for other, number in enumerate(bounds))
                self.says("feed a", "0")
                self.refuses(book_row(beyond), NoRow)
                self.refuses("feed 1", Refused, 1)
        self.says("book 1000 1 1000 0 1000 0 20", "ok")

    def test_each_number_counts(self):
        letter = ("tell", (("to", "bob"),),
                  ("parts", (((("n", "v"),), ("length", "hi")), ((), ("parts", (((), ("none",)),))))))
        book = (4, 2, 3, 1, 2, 3, 2)
        road = written(letter, book)
        self.says(book_row(book), "ok")
        self.says("feed " + shown(road), "1")
        self.says("letter 0", shown(road))
        for place in range(7):
            self.says(book_row(tuple(number - (other == place) for other, number in enumerate(book))), "ok")
            self.refuses("feed " + shown(road), Refused)
            self.refuses("lax - " + shown(road), Unread)


class NoRows(AtTheDesk):
    def none_of(self, rows):
        self.says("feed ask;\\n;\\ntell", "1")
        self.says("put n v", "ok")
        self.says("hand ask;\\n;\\nas", "ask;\\nn: v;\\n;\\n")
        before = self.state()
        for row in rows:
            self.refuses(row, NoRow)
            self.assertEqual(self.state(), before, repr(row))
        self.says("feed ;\\n;\\n", "2")
        self.says("hand k;\\n;\\n", "ask;\\nn: v;\\n;\\n")
        self.says("hand ask;\\nto: bob;\\n;\\n", "ask;\\nto: bob;\\nn: v;\\n;\\n")

    def test_other_verbs(self):
        self.none_of(["", " ", "  ", "say x", "Feed a", "FEED a", "feeda", "feed", "ends", "en", "end;",
                      "books 1 1 1 1 1 1 1", "rule", "read",
                      "hopeful", "-", "\\n", "\n", "ok", "fed a", "letters 0", "switches", "trying a", "feed\\na",
                      "feed\na"])

    def test_blanks_ahead_and_behind(self):
        self.none_of([" " + row for row in ("end", "feed a", "letter 0", "fault", "length", "book 1 1 1 1 1 1 1")])
        self.none_of_again([row + " " for row in ("end", "letter 0", "awaited", "drop n", "length", "pieces 1", "done",
                                                  "fault",
                                                  "book 1 1 1 1 1 1 1")])

    def none_of_again(self, rows):
        self.setUp()
        self.none_of(rows)

    def test_two_blanks(self):
        self.none_of(["book  1 1 1 1 1 1 1", "book 1 1 1  1 1 1 1", "letter  0", "drop  n", "pieces  1", "put  n v",
                      "lax  - ask;\\n;\\n",
                      "end  ", "drop n  "])

    def test_too_few_or_too_many_words(self):
        self.none_of(["book", "book 1", "book 1 1 1 1 1 1", "book 1 1 1 1 1 1 1 1", "feed", "feed ", "try", "try ",
                      "hand", "hand ",
                      "letter", "letter ", "letter 0 0", "letter 0 x", "put", "put ", "put n", "put n ", "drop",
                      "drop ", "drop n m",
                      "pieces", "pieces ", "pieces 1 1", "length 1", "length x", "end 1", "end x", "awaited x",
                      "done x", "fault x", "lax -"])

    def test_numbers_that_are_none(self):
        words = ("00", "01", "007", "0001", "10000", "99999", "123456", "-1", "+1", "-0", "1.", "1.0", "x", "a", "1a",
                 "0x1", "1,0", "", "\\n",
                 "\u0661", "\u00b2", "1_0", "\n1", "1\n")
        self.none_of(["letter " + word for word in words])
        self.none_of_again(["pieces " + word for word in words])
        for book in ("book {} 1 1 1 1 1 1", "book 1 1 1 {} 1 1 1", "book 1 1 1 1 1 1 {}"):
            self.none_of_again([book.format(word) for word in words])

    def test_bounds_that_no_book_has(self):
        self.none_of(["book 0 1 1 0 0 0 0", "book 1 0 1 0 0 0 0", "book 1 1 0 0 0 0 0", "book 1 1 1 0 0 0 21",
                      "book 1001 1 1 0 0 0 0", "book 1 1001 1 0 0 0 0", "book 1 1 1001 0 0 0 0", "book 1 1 1 1001 0 0 0",
                      "book 1 1 1 0 1001 0 0", "book 1 1 1 0 0 1001 0", "book 1 1 1 0 0 0 1000",
                      "book 9999 9999 9999 9999 9999 9999 9999"])

    def test_names_that_are_none(self):
        words = ("To", "TO", "t1", "t-o", "t_o", "1", ":", "to:", "t\\n", "\\\\", "t\n", "\u00e4", "-")
        self.none_of(["drop " + word for word in words] + [f"put {word} v" for word in words])

    def test_a_letter_that_was_not_read(self):
        self.none_of(["letter 1", "letter 2", "letter 9999"])

    def test_what_is_no_text(self):
        self.none_of([None, 0, 1, True, False, ("end",), ["end"], {}, ("feed", "a"), b"end", 1.5, object()])

    def test_no_row_comes_ahead_of_the_other_refusals(self):
        self.refuses("feed A", Refused, 0)
        for row in ("feed ", "feed \\", "end x", "letter x", "awaited x"):
            self.refuses(row, NoRow)
        self.refuses("put rest \\", NoRow)
        self.refuses("put rest ", NoRow)
        self.refuses("pieces 00", NoRow)
        self.refuses("lax 0 \\x", NoRow)


class Desks(AtTheDesk):
    def test_desks_do_not_touch_one_another(self):
        other = Desk()
        self.says("book 1 1 1 1 1 1 1", "ok")
        self.says("put n v", "ok")
        self.assertEqual(other.say("hand ask;\\n;\\n"), "ask;\\n;\\n")
        self.assertEqual(other.say("feed ask;\\n;\\n"), "1")
        self.refuses("letter 0", NoRow)
        self.assertEqual(other.say("put to bob"), "ok")
        self.says("hand a;\\n;\\n", "a;\\nn: v;\\n;\\n")

    def test_every_verb_answers(self):
        rows = {"book": book_row(USUAL), "feed": "feed ask;\\n;\\n", "letter": "letter 0", "try": "try a",
                "put": "put n v", "drop": "drop m", "pieces": "pieces 1", "hand": "hand a", "lax": "lax - ask;\\n;\\n"}
        for verb in VERBS:
            self.desk = Desk()
            if verb == "letter":
                self.desk.say("feed ask;\\n;\\n")
            self.assertIsInstance(self.desk.say(rows.get(verb, verb)), str)


if __name__ == "__main__":
    unittest.main()
