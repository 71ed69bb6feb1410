"""Promises 21, 22 and 23: rules, turned letters and posts."""

import itertools
import unittest

from framepost.errors import FrameError, NoRule
from framepost.letters import keeps
from framepost.posts import Post, turned
from framepost.reader import read_all
from framepost.signs import END_NAMES, USUAL
from framepost.writer import written, written_all
from helper import ASK, BARE_REST, EMPTY, LISTS, NONE, PARTS, PIECES, REST, SMALL_BOOKS, TELL, Maker
from helper import all_cuts, fields, nested, plain_reading, roads_amiss

LENGTH = ("length",)
RULES = ([], [LENGTH], [("pieces", 1)], [("pieces", 3)], [("drop", "to")], [("drop", "sum"), ("drop", "n")],
         [("put", "via", "post")], [("put", "n", "1"), ("put", "to", "x"), ("put", "via", "a b")],
         [("put", "via", "post"), LENGTH, ("drop", "sum"), ("put", "new", ":")],
         [("pieces", 2), ("drop", "to"), ("put", "via", "post"), ("drop", "rest"), ("put", "via", "other")])


def rules_of(maker):
    """Rules that no post of the maker's book refuses, of names that its letters have, too."""
    chance = maker.chance
    rules = chance.choice(([], [LENGTH], [("pieces", chance.choice((1, 2, 3, 5, 1000)))]))
    names = [maker.name() for number in range(4)]
    puts = names[:chance.randrange(3)]
    rules = rules + [("put", name, maker.value()) for name in puts + puts[:chance.randrange(2)]]
    rules += [("drop", name) for name in names[2:] + ["rest"] if name not in puts and chance.random() < 0.5]
    chance.shuffle(rules)
    return rules


def plain_body(body, rules, own):
    """A body turned, and the fields behind which its trail came, told once more and otherwise than in the package."""
    sizes = [rule[1] for rule in rules if rule[0] == "pieces"]
    if body[0] == "parts":
        parts = []
        for part_fields, part_body in body[1]:
            part_body, part_fields = plain_body(part_body, rules, list(part_fields))
            parts.append((tuple(part_fields), part_body))
        return ("parts", tuple(parts)), own
    if LENGTH in rules and body[0] == "pieces":
        return ("length", "".join(body[1])), own + list(body[2])
    if LENGTH in rules and body[0] == "rest":
        return ("length", body[1]), own
    if sizes and body[0] in ("length", "rest"):
        texts, text = [], body[1]
        while text:
            texts.append(text[:sizes[0]])
            text = text[sizes[0]:]
        return ("pieces", tuple(texts), ()), own
    return body, own


def plainly_turned(letter, rules, book):
    dropped = {rule[1] for rule in rules if rule[0] == "drop"}
    own = [pair for pair in letter[1] if pair[0] not in dropped]
    body = letter[2]
    if body[0] == "pieces":
        body = body[:2] + (tuple(pair for pair in body[2] if pair[0] not in dropped),)
    body, own = plain_body(body, rules, own)
    for rule in rules:
        trail = list(body[2]) if body[0] == "pieces" else []
        if rule[0] == "put" and rule[1] not in dict(own + trail) and len(own + trail) < book[3]:
            own.append(rule[1:])
    return (letter[0], tuple(own), body)


class Rules(unittest.TestCase):
    def refused(self, rules, book=None):
        before = list(rules)
        with self.assertRaises(NoRule) as caught:
            Post(rules, book)
        self.assertIsInstance(caught.exception, FrameError)
        self.assertEqual(rules, before)

    def taken(self, rules, book=None):
        self.assertIsNone(Post(rules, book).fault())

    def test_rules_that_may_be(self):
        for rules in RULES:
            self.taken(rules)
            self.taken(rules, USUAL)

    def test_names_put(self):
        for name in END_NAMES + ("", "To", "t o", "to ", " to", "n1", "a-b", "a:", "a\n", ";", "abcdefghijklm"):
            self.refused([("put", name, "v")])
            self.refused([("put", "ok", "v"), LENGTH, ("put", name, "v")])
        for name in ("a", "z", "abcdefghijkl", "res", "rests", "lengths", "part", "yes", "ok"):
            self.taken([("put", name, "v")])
        self.refused([("put", "ab", "v")], (1, 1, 1, 1, 1, 1, 1))
        self.taken([("put", "a", "v")], (1, 1, 1, 1, 1, 1, 1))
        self.taken([("put", "abcdefghijklm", "v")], (1, 13, 1, 1, 1, 1, 1))

    def test_values_put(self):
        for value in ("", " ", " v", "v ", "a;b", ";", "a\nb", "\n", "v\n", "v" * 41, " " * 40):
            self.refused([("put", "n", value)])
        for value in ("v", "a b", ":", "\\n", "V", "1", "yes", "v" * 40, "a" + " " * 38 + "b"):
            self.taken([("put", "n", value)])
        self.refused([("put", "n", "vv")], (1, 1, 1, 1, 1, 1, 1))
        self.taken([("put", "n", "v" * 41)], (1, 1, 41, 1, 1, 1, 1))

    def test_a_name_put_and_dropped(self):
        self.refused([("put", "n", "v"), ("drop", "n")])
        self.refused([("drop", "n"), ("put", "n", "v")])
        self.refused([("drop", "n"), ("put", "m", "v"), LENGTH, ("drop", "x"), ("put", "n", "v")])
        self.taken([("drop", "n"), ("put", "m", "n"), ("drop", "v")])

    def test_names_dropped(self):
        for name in END_NAMES + ("n", "nobody", "abcdefghijklmnopq"):
            self.taken([("drop", name)])
            self.taken([("drop", name), ("drop", name), ("put", "m", "v")])
        letter = ("ask", fields(1), ("rest", "x"))
        for name in END_NAMES + ("nobody",):
            self.assertEqual(turned(letter, [("drop", name)]), letter)

    def test_sizes(self):
        for size in (0, -1, -400):
            self.refused([("pieces", size)])
        for size in (1, 2, 400, 401, 100000):
            self.taken([("pieces", size)])

    def test_more_than_one_shape_of_bodies(self):
        for two in itertools.product((LENGTH, ("pieces", 1), ("pieces", 2)), repeat=2):
            self.refused(list(two))
            self.refused([two[0], ("put", "n", "v"), two[1], ("drop", "m")])
        self.refused([LENGTH] * 3)

    def test_one_put_twice_is_not_refused(self):
        self.taken([("put", "n", "v"), ("put", "n", "w"), ("put", "n", "v")])


class Turning(unittest.TestCase):
    def turns(self, letter, rules, want, book=None):
        """That a letter is turned so, keeps the book then, and stays when it is turned once more."""
        limits = USUAL if book is None else book
        before = list(rules)
        told = turned(letter, rules, book)
        self.assertEqual(told, want, repr((letter, rules)))
        self.assertEqual(rules, before)
        self.assertTrue(keeps(told, limits), repr((letter, rules)))
        self.assertEqual(turned(told, rules, book), told)
        self.assertEqual(read_all(written(told, limits), limits), [told])

    def test_no_rule_changes_nothing(self):
        for letter in (ASK, TELL, EMPTY, PIECES, PARTS, REST, BARE_REST):
            self.turns(letter, [], letter)

    def test_drop(self):
        own = (("a", "1"), ("b", "2"), ("a", "3"), ("aa", "4"))
        kept = (("b", "2"), ("aa", "4"))
        part = (own, ("pieces", ("x",), own))
        for body in (NONE, ("length", "a: 1;\n"), ("rest", "a"), ("parts", (part, part))):
            self.turns(("w", own, body), [("drop", "a")], ("w", kept, body))
        self.turns(("w", own, ("pieces", ("x",), own)), [("drop", "a")], ("w", kept, ("pieces", ("x",), kept)))
        self.turns(("w", (), ("pieces", (), own)), [("drop", "a"), ("drop", "b")], ("w", (), ("pieces", (), own[3:])))
        self.turns(("a", own, NONE), [("drop", "a"), ("drop", "aa"), ("drop", "b")], ("a", (), NONE))

    def test_into_a_length(self):
        for body, want, trail in (
                (NONE, NONE, ()), (("length", "xy"), ("length", "xy"), ()), (("rest", "a\n;"), ("length", "a\n;"), ()),
                (("rest", ""), ("length", ""), ()), (("pieces", (), ()), ("length", ""), ()),
                (("pieces", ("ab", "c", "\n;"), fields(2)), ("length", "abc\n;"), fields(2)),
                (("pieces", (), fields(1)), ("length", ""), fields(1)), (("parts", ()), ("parts", ()), ())):
            for own in ((), (("first", "1"), ("n", "2"))):
                self.turns(("w", own, body), [LENGTH], ("w", own + trail, want))

    def test_into_pieces(self):
        for text, size, texts in (
                ("", 3, ()), ("a", 3, ("a",)), ("abc", 3, ("abc",)), ("abcd", 3, ("abc", "d")),
                                  ("abcdef", 3, ("abc", "def")),
                ("a\n;", 1, ("a", "\n", ";")), ("x" * 400, 399, ("x" * 399, "x")), ("ab", 9999, ("ab",))):
            for kind in ("length", "rest"):
                self.turns(("w", fields(2), (kind, text)), [("pieces", size)], ("w", fields(2), ("pieces", texts, ())))
        for body in (NONE, ("pieces", ("abcd", "e", "fg"), fields(2)), ("pieces", (), ()), ("parts", ())):
            self.turns(("w", fields(1), body), [("pieces", 2)], ("w", fields(1), body))

    def test_parts_at_any_depth(self):
        own, trail = (("a", "1"),), (("t", "2"), ("a", "3"))
        many = (own, ("pieces", ("ab", "c"), trail))
        one = (own, ("length", "abc"))
        none = (own, NONE)
        deep = ("w", own, ("parts", (many, (own, ("parts", (one, none, (own, ("parts", (many,)))))), none, one)))
        long = (own + trail, ("length", "abc"))
        self.turns(deep, [LENGTH], ("w", own, ("parts", (
            long, (own, ("parts", (one, none, (own, ("parts", (long,)))))), none, one))))
        cut = (own, ("pieces", ("ab", "c"), ()))
        self.turns(deep, [("pieces", 2)], ("w", own, ("parts", (
            many, (own, ("parts", (cut, none, (own, ("parts", (many,)))))), none, cut))))
        self.turns(("w", (), nested(6, ("pieces", ("x", "y"), own))), [LENGTH],
                   ("w", (), nested(5, ("parts", ((own, ("length", "xy")),)))))

    def test_names_of_parts_stay_and_nothing_is_put_to_them(self):
        own = (("a", "1"), ("b", "2"))
        letter = ("w", own, ("parts", ((own, ("pieces", ("x",), own)), ((), NONE))))
        rules = [("drop", "a"), ("put", "c", "3"), LENGTH]
        self.turns(letter, rules,
                   ("w", (("b", "2"), ("c", "3")), ("parts", ((own + own, ("length", "x")), ((), NONE)))))

    def test_puts(self):
        put = [("put", "n", "1"), ("put", "m", "2")]
        new = (("n", "1"), ("m", "2"))
        for own, want in (((), new), ((("a", "b"),), (("a", "b"),) + new), ((("m", "x"),), (("m", "x"), ("n", "1"))),
                          ((("n", "x"), ("a", "b")), (("n", "x"), ("a", "b"), ("m", "2"))), (new, new)):
            for body in (NONE, ("length", "x"), ("rest", ""), ("parts", ((fields(1), NONE),)), ("pieces", ("x",), ())):
                self.turns(("w", own, body), put, ("w", want, body))
        self.turns(("w", (), NONE), put[::-1], ("w", new[::-1], NONE))

    def test_puts_where_the_trail_has_the_name(self):
        body = ("pieces", ("x",), (("n", "t"),))
        put = [("put", "n", "1"), ("put", "m", "2")]
        self.turns(("w", (), body), put, ("w", (("m", "2"),), body))
        self.turns(("w", (), body), put + [LENGTH], ("w", (("n", "t"), ("m", "2")), ("length", "x")))
        part = (("parts", ((fields(1), ("pieces", (), fields(1))),)))
        self.turns(("w", (), part), put, ("w", (("n", "1"), ("m", "2")), part))

    def test_puts_where_the_fields_are_full(self):
        put = [("put", "x", "1"), ("put", "y", "2")]
        for own, trail in ((12, 0), (0, 12), (7, 5)):
            body = ("pieces", (), fields(trail))
            self.turns(("w", fields(own), body), put, ("w", fields(own), body))
        for own, trail in ((11, 0), (0, 11), (5, 6)):
            body = ("pieces", (), fields(trail))
            self.turns(("w", fields(own), body), put, ("w", fields(own) + (("x", "1"),), body))
        self.turns(("w", fields(12), NONE), put, ("w", fields(12), NONE))
        self.turns(("w", fields(12), NONE), put + [("drop", "n")], ("w", (("x", "1"), ("y", "2")), NONE))
        self.turns(("w", (), NONE), put, ("w", (), NONE), (1, 1, 1, 0, 0, 0, 0))
        self.turns(("w", (), NONE), put, ("w", (("x", "1"),), NONE), (1, 1, 1, 1, 0, 0, 0))
        full = (("a", "1"),) * 11
        self.turns(("w", full, NONE), [("put", "a", "2"), ("put", "b", "3")], ("w", full + (("b", "3"),), NONE))

    def test_one_name_put_twice(self):
        self.turns(("w", (), NONE), [("put", "n", "1"), ("put", "n", "2")], ("w", (("n", "1"),), NONE))
        self.turns(("w", (), NONE), [("put", "n", "1"), ("put", "m", "2"), ("put", "n", "3")],
                   ("w", (("n", "1"), ("m", "2")), NONE))

    def test_all_together_in_any_order(self):
        letter = ("w", (("a", "1"), ("b", "2")), ("pieces", ("x", "yz"), (("a", "3"), ("c", "4"))))
        rules = [("drop", "a"), LENGTH, ("put", "d", "5"), ("put", "c", "6")]
        for order in itertools.permutations(rules):
            self.turns(letter, list(order), ("w", (("b", "2"), ("c", "4"), ("d", "5")), ("length", "xyz")))
        rules = [("drop", "b"), ("pieces", 2), ("drop", "c"), ("put", "e", "5")]
        for order in itertools.permutations(rules):
            self.turns(letter, list(order), ("w", (("a", "1"), ("e", "5")), ("pieces", ("x", "yz"), (("a", "3"),))))
            self.turns(("w", (("b", "1"),), ("rest", "xyz")), list(order),
                       ("w", (("e", "5"),), ("pieces", ("xy", "z"), ())))

    def test_dropping_makes_room_ahead_of_putting(self):
        letter = ("w", fields(6), ("pieces", (), fields(6)))
        self.turns(letter, [("put", "a", "1"), LENGTH, ("drop", "n")], ("w", (("a", "1"),), ("length", "")))

    def test_letters_of_many_sorts(self):
        for seed in range(40):
            for book in SMALL_BOOKS + (USUAL,):
                maker = Maker(book, seed)
                rules = rules_of(maker)
                for letter in maker.letters(3):
                    self.turns(letter, rules, plainly_turned(letter, rules, book), book)

    def test_left_out_none_and_usual_are_alike(self):
        put = [("put", "x", "1")]
        for letter in (("w", fields(11), NONE), ("w", fields(12), NONE)):
            told = [turned(letter, put), turned(letter, put, None), turned(letter, put, book=USUAL)]
            self.assertEqual(told, [plainly_turned(letter, put, USUAL)] * 3)


class Posts(unittest.TestCase):
    def by_pieces(self, rules, pieces, book=None):
        """What is handed on by each piece and by the end, and the fault behind each."""
        post = Post(rules, book)
        told = [(post.fed(piece), post.fault()) for piece in pieces]
        told.append((post.ended(), post.fault()))
        for text in ("", "a", "ask;\n;\n"):
            self.assertEqual((post.fed(text), post.ended(), post.fault()), ("", "", told[-1][1]))
        return told

    def hands(self, road, rules, want, fault, book=None):
        """That a road is handed on so in all, and its fault is this, however it is cut."""
        for pieces in all_cuts(road):
            told = self.by_pieces(rules, pieces, book)
            self.assertEqual("".join(text for text, its_fault in told), want, repr((road, rules)))
            self.assertEqual(told[-1][1], fault, repr((road, rules)))

    def test_the_kinds_of_what_is_told(self):
        post = Post([])
        self.assertEqual((post.fed("ask;\n;\nA"), type(post.fault())), ("ask;\n;\n", tuple))
        self.assertEqual((Post([]).fed(""), Post([]).ended(), Post([]).fault()), ("", "", None))

    def test_several_letters_by_each_rules(self):
        for rules in RULES:
            for letters in LISTS:
                want = "".join(written(plainly_turned(letter, rules, USUAL)) for letter in letters)
                self.hands(written_all(letters), rules, want, None)

    def test_behind_each_piece_what_became_whole_by_it(self):
        letters = [TELL, PIECES, PARTS, EMPTY, ASK, REST]
        road = written_all(letters)
        ends = [len(written_all(letters[:count])) for count in range(6)]
        for rules in RULES:
            for pieces in all_cuts(road):
                post, taken = Post(rules), 0
                for piece in pieces:
                    by_now = [at for at in ends if taken < at <= taken + len(piece)]
                    want = [written(plainly_turned(letters[ends.index(at) - 1], rules, USUAL)) for at in by_now]
                    self.assertEqual((post.fed(piece), post.fault()), ("".join(want), None))
                    taken += len(piece)
                self.assertEqual(post.ended(), written(plainly_turned(REST, rules, USUAL)))
                self.assertIsNone(post.fault())

    def test_a_rest_at_the_roads_end_alone(self):
        post = Post([("put", "via", "post")])
        self.assertEqual(post.fed(written(BARE_REST) + "ask;\n;\n"), "")
        self.assertEqual(post.fed("x"), "")
        self.assertEqual(post.ended(), "tell;\nvia: post;\nrest: yes;\n;\nask;\n;\nx")
        self.assertEqual((post.ended(), post.fault()), ("", None))
        self.hands(written(BARE_REST), [LENGTH], "tell;\nlength: 0;\n;\n", None)
        self.hands(written(BARE_REST), [("pieces", 3)], "tell;\npieces: yes;\n;\n0;\n;\n", None)

    def test_refused(self):
        ahead = written_all([TELL, PARTS])
        for road, at in (("A", 0), ("askA;\n;\n", 3), ("ask;\n\n", 5), ("ask;\nto: \n", 9),
                         ("tell;\nlength: 401;\n;\n", 16)):
            self.hands(road, [], "", ("refused", at))
            self.hands(ahead + road, [], ahead, ("refused", len(ahead) + at))
            self.hands(ahead + road + ahead, [], ahead, ("refused", len(ahead) + at))
        self.hands(written(BARE_REST) + "x" * 401, [], "", ("refused", len(written(BARE_REST)) + 400))
        post = Post([])
        self.assertEqual((post.fed("ask;\n;\nask;\n;\nask;\n!"), post.fault()), ("ask;\n;\nask;\n;\n", ("refused", 19)))
        self.assertEqual((post.fed(";\n"), post.ended(), post.fault()), ("", "", ("refused", 19)))

    def test_cut(self):
        road = written_all([TELL, PIECES, PARTS])
        ends = [len(written_all([TELL, PIECES, PARTS][:count])) for count in range(4)]
        for at in range(len(road) + 1):
            handed = max(end for end in ends if end <= at)
            self.hands(road[:at], [], road[:handed], None if at in ends else ("cut", at))
        post = Post([])
        self.assertEqual((post.fed("ask;\n"), post.fault(), post.ended(), post.fault()), ("", None, "", ("cut", 5)))
        self.assertEqual((post.fed(";\n"), post.ended(), post.fault()), ("", "", ("cut", 5)))
        self.hands("tell;\nrest: yes;\n", [], "", ("cut", 17))

    def test_nothing_behind_the_end(self):
        post = Post([])
        self.assertEqual((post.fed("ask;\n;\n"), post.ended()), ("ask;\n;\n", ""))
        self.assertEqual((post.fed("ask;\n;\n"), post.ended(), post.fault()), ("", "", None))

    def test_rules_changed_behind_the_making_change_nothing(self):
        rules = [("put", "via", "post")]
        post = Post(rules)
        self.assertEqual(rules, [("put", "via", "post")])
        rules[0] = ("put", "other", "x")
        rules.append(LENGTH)
        self.assertEqual(post.fed(written(PIECES)), written(plainly_turned(PIECES, [("put", "via", "post")], USUAL)))
        rules.clear()
        self.assertEqual(post.fed(written(ASK)), "ask;\nvia: post;\n;\n")

    def test_posts_do_not_touch_one_another(self):
        one, other = Post([("put", "a", "1")]), Post([("put", "b", "2")])
        self.assertEqual((one.fed("ask;\n"), other.fed("tell;\n"), one.fed(";\n"), other.fed("A")),
                         ("", "", "ask;\na: 1;\n;\n", ""))
        self.assertEqual((one.fault(), other.fault()), (None, ("refused", 6)))

    def test_a_second_post_of_the_same_rules(self):
        for rules in RULES:
            for letters in LISTS:
                self.second_post(written_all(letters), rules, USUAL)

    def second_post(self, road, rules, book):
        """That a second post hands on what it is fed, but a rest that the rules leave at its own end."""
        for pieces in all_cuts(road):
            one, other = Post(rules, book), Post(rules, book)
            handed = [one.fed(piece) for piece in pieces]
            self.assertEqual([other.fed(text) for text in handed], handed)
            last = one.ended()
            if one.fault() is None:
                again = (other.fed(last), other.ended())
                self.assertEqual(again, ("", last) if "rest: yes;\n" in last else (last, ""))
            self.assertIsNone(other.fault())

    def test_roads_with_one_sign_amiss(self):
        for seed, book in enumerate(SMALL_BOOKS + (USUAL,)):
            maker = Maker(book, seed + 60)
            for number in range(4):
                rules = rules_of(maker)
                for road in roads_amiss(maker.chance, written_all(maker.letters(3), book)[:300], 5):
                    self.same_however_cut(road, rules, book)

    def same_however_cut(self, road, rules, book):
        told = [self.by_pieces(rules, pieces, book) for pieces in all_cuts(road)]
        handed = ["".join(text for text, fault in some) for some in told]
        self.assertEqual(handed, [handed[0]] * len(handed), repr((road, rules)))
        faults = [some[-1][1] for some in told]
        self.assertEqual(faults, [faults[0]] * len(faults), repr((road, rules)))
        self.assertIs(faults[0] is None, plain_reading(road, book) is not None, repr((road, rules)))
        for some in told:
            self.assertLessEqual({fault for text, fault in some}, {None, faults[0]})
        if faults[0] is None:
            want = [plainly_turned(letter, rules, book) for letter in plain_reading(road, book)]
        else:
            self.assertIn(faults[0][0], ("refused", "cut"))
            self.assertEqual(faults[0][0] == "cut", faults[0][1] == len(road))
            ahead = [plain_reading(road[:at], book) for at in range(faults[0][1] + 1)]
            whole = max([letters for letters in ahead if letters is not None], key=len)
            want = [plainly_turned(letter, rules, book) for letter in whole if letter[2][0] != "rest"]
        self.assertEqual(handed[0], written_all(want, book), repr((road, rules)))
        self.second_post(road, rules, book)

    def test_books(self):
        book = (1, 1, 1, 1, 1, 1, 1)
        self.hands("a;\n;\n", [("put", "n", "v")], "a;\nn: v;\n;\n", None, book)
        self.hands("ab;\n;\n", [], "", ("refused", 1), book)
        for told in (Post([]), Post([], None), Post([], USUAL), Post(rules=[], book=None)):
            self.assertEqual(told.fed("abcdefgh;\n;\nabcdefghi"), "abcdefgh;\n;\n")
            self.assertEqual(told.fault(), ("refused", 20))

    def test_a_long_road_sign_by_sign(self):
        road = written_all([ASK, TELL, PIECES, EMPTY] * 230)
        self.assertLess(len(road), 30000)
        post = Post([("put", "via", "post")])
        handed = "".join(post.fed(sign) for sign in road) + post.ended()
        self.assertEqual(handed, "".join(written(plainly_turned(letter, [("put", "via", "post")], USUAL))
                                         for letter in [ASK, TELL, PIECES, EMPTY] * 230))


if __name__ == "__main__":
    unittest.main()
