"""Points 11, 12 and 3 (d), and point 2 of mouthrules/books.py."""

import collections
import copy
import enum
import random
import unittest

from helping import A, B, BLANK, MARK, OPEN, SHUT, marked, odd_things, row
from mouthrules import books
from mouthrules.books import DEEDS, EXCHANGED, Book
from mouthrules.errors import Fault, MouthError, NoKey, NoWorth
from mouthrules.pieces import KINDS, first_kinds

SIGNS = [chr(number) for number in range(32, 127)] + ["\t", "\n"]
RULE = ("rule", marked("a1b"), marked("{1}1"))

# A key of each word, with worths of it, the first one being what is there at first.
WORTHS = {
    ("kind", "a"): ("letter", "gone", "active", "other"),
    ("kind", "?"): ("other", "letter", "escape"),
    ("name", "x y"): (None, ("deed", "fi"), ("piece", A), RULE),
    ("name", "rule"): (("deed", "rule"), None, ("deed", "skip"), ("piece", BLANK)),
    ("active", "~"): (None, ("piece", OPEN), ("deed", "stay"), ("rule", (), ())),
    ("box", 0): (0, 1, -1, 999999999999),
    ("box", 255): (0, 5, -999999999999),
    ("row", 0): ([], [A], [SHUT], [OPEN]),
    ("row", 255): ([], [("name", "a"), BLANK], [MARK]),
}

NO_KEYS = [("box", True), ("box", False), ("box", -1), ("box", 256), ("box", "0"), ("box", 0.0), ("box", None), ("box",),
           ("box", 0, 0), ["box", 0], ("boxes", 0), ("row", True), ("row", -1), ("row", 256), ("row", [0]), ("row", "0"),
           ("row", 10 ** 60), ("kind", ""), ("kind", "ab"), ("kind", "\r"), ("kind", 0), ("kind", None), ("kind", ["a"]),
           ("name", ""), ("name", "a" * 31), ("name", "a\r"), ("name", None), ("name", ["a"]), ("name", ("a",)),
           ("name", "\u00e4"), ("active", "ab"), ("active", ""), ("active", True), ("active", {}), ("text", "a"),
           ("hand", 1), ("letter", "a"), ("deed", "fi"), ("Box", 0), (None, "a"), (("name",), "a"), (["name"], "a"),
           ({"name": 1}, "a"), (True, 0), ("", ""), "box", "kind", None, 0, 1, [], {"box": 0}, A, OPEN]


def no_worths(key):
    """Things that can't be set at that key."""
    told = odd_things() + [("deed",), ("deed", "fi", "fi"), ["deed", "fi"], ("rule", ()), ("rule", ((), ())), [("rule",)]]
    others = {
        "kind": [None, 0, "none", "Letter", "letter ", "name", "hand", "row", ["letter"], ("letter",), ("deed", "kind")],
        "box": [None, "0", "1", [1], (1,), 10 ** 12, -10 ** 12, 10 ** 12 + 1, 0.0, {0}, ("box", 0)],
        "row": [None, 0, (), (A,), A, [A, ("hand", 1)], [("hand", 9)], ["a"], [[A]], [A, None], [("blank", "\t")],
                {A: A}, [("letter", "ab")], ((), ()), "letter", row("a") + [("hand", True)], [OPEN, ("hand", 2), SHUT]],
    }
    meanings = [0, "fi", "deed", [], (), ("deed", "none"), ("deed", ""), ("deed", None), ("deed", ["fi"]), ("deed", 1),
                ("deed", "FI"), ("deed", ("fi",)), ("none",), (None,), ("none", None), ("piece", None), ("piece", "a"),
                ("piece", ("name", "a")), ("piece", ("active", "~")), ("piece", ("hand", 1)), ("piece", A, A),
                ("piece", ["letter", "a"]), ("piece", ("blank", "a")), ("piece", [A]), ("piece", ("letter", "ab")), A,
                ("rule", (), (), ()), ("rule", [], ()), ("rule", (), []), ("rule", marked("2"), ()),
                ("rule", (), marked("1")), ("rule", marked("{"), marked("")), ("rule", (), marked("{")),
                ("rule", marked("a" * 31), ()), ("rule", (("hand", True),), ()), ("rule", marked("#"), ()),
                ("rules", (), ()), ("deed", (), ()), ["rule", (), ()], ("piece",), ("Rule", (), ()), ((), ()),
                (1, "fi"), (["deed"], "fi"), ("deed", "signs"), ("piece", ("blank",))]
    more = others.get(key[0], meanings)
    if key[0] == "row":
        told = [thing for thing in told if thing.__class__ != list or thing]
    if key[0] == "box":
        told = [thing for thing in told if thing.__class__ != int or abs(thing) >= 10 ** 12]
    return told + more


def worths_of(book):
    """All worths of a book, but for names that are no deeds and are not in WORTHS."""
    keys = [("kind", sign) for sign in SIGNS] + [("active", sign) for sign in SIGNS]
    keys += [(word, number) for word in ("box", "row") for number in range(256)]
    keys += [("name", word) for word in DEEDS] + list(WORTHS)
    return {key: book.worth(key) for key in keys}


def changed_books():
    """Books that are all unlike, by one thing each or two."""
    told = [Book()]
    for key, worths in WORTHS.items():
        for worth in worths[1:]:
            told.append(Book())
            told[-1].put(key, worth)
    for word in ("signs", "deeds"):
        book = Book()
        book.begin(word)
        told.append(book)
        for inner in ("signs", "deeds"):
            told.append(book.twin())
            told[-1].begin(inner)
        for pieces in ([A], [B], [A, B], [B, A], [A, A], [("name", "a")]):
            told.append(book.twin())
            for piece in pieces:
                told[-1].leave(piece)
        for key, worths in WORTHS.items():
            for worth in worths:
                told.append(book.twin())
                told[-1].put(key, worth)
            for worth in worths[1:]:
                told.append(book.twin())
                told[-1].put(key, worth, for_all=True)
                told.append(told[-1].twin())
                told[-1].put(key, worth)
    return told


class DeedsTest(unittest.TestCase):
    def test_the_words(self):
        self.assertEqual(EXCHANGED, ("behind", "name", "iflike", "ifsame", "ifkind", "ifless", "else", "fi", "figures",
                                     "row", "text"))
        self.assertEqual(DEEDS, EXCHANGED + ("rule", "through", "like", "kind", "set", "add", "keep", "all", "open",
                                             "shut", "later", "skip", "stay", "box", "endname"))


class FirstTest(unittest.TestCase):
    def test_kinds(self):
        self.assertEqual(Book().kinds(), first_kinds())
        for sign in SIGNS:
            self.assertEqual(Book().worth(("kind", sign)), first_kinds().get(sign, "other"))

    def test_meanings(self):
        for word in DEEDS:
            self.assertEqual(Book().worth(("name", word)), ("deed", word))
        for name in [*SIGNS, "a", "x y", "Rule", "rules", " ", "none", "a" * 30, "kinds", "gone", "signs"]:
            if name not in DEEDS:
                with self.subTest(name=name):
                    self.assertIsNone(Book().worth(("name", name)))
        for sign in SIGNS:
            self.assertIsNone(Book().worth(("active", sign)))

    def test_boxes(self):
        for number in range(256):
            self.assertEqual(Book().worth(("box", number)), 0)
            self.assertEqual(Book().worth(("row", number)), [])

    def test_groups(self):
        self.assertEqual(Book().depth(), 0)


class WorthTest(unittest.TestCase):
    def test_worths_are_set(self):
        for for_all in (False, True):
            book = Book()
            for key, worths in WORTHS.items():
                for worth in (*worths, *worths[::-1]):
                    with self.subTest(key=key, worth=worth, for_all=for_all):
                        self.assertIsNone(book.put(key, worth, for_all=for_all))
                        self.assertEqual(book.worth(key), worth)
                        self.assertEqual(book.worth(key).__class__, worth.__class__)

    def test_a_worth_is_set_at_its_key_alone(self):
        first = worths_of(Book())
        for key, worths in WORTHS.items():
            book = Book()
            book.put(key, worths[1])
            with self.subTest(key=key):
                self.assertEqual(worths_of(book), {**first, key: worths[1]})

    def test_keys_of_unlike_words_are_unlike(self):
        book = Book()
        book.put(("name", "~"), ("deed", "fi"))
        book.put(("box", 7), 5)
        book.put(("kind", "~"), "gone")
        self.assertIsNone(book.worth(("active", "~")))
        self.assertEqual(book.worth(("row", 7)), [])
        self.assertEqual(book.worth(("box", 8)), 0)
        book.put(("active", "~"), ("deed", "else"))
        self.assertEqual(book.worth(("name", "~")), ("deed", "fi"))

    def test_all_kinds_deeds_and_sign_pieces_can_be_set(self):
        book = Book()
        for kind in KINDS:
            book.put(("kind", "a"), kind)
            self.assertEqual(book.worth(("kind", "a")), kind)
        for word in DEEDS:
            book.put(("name", "a"), ("deed", word))
            self.assertEqual(book.worth(("name", "a")), ("deed", word))
        for word in ("open", "shut", "mark", "letter", "other"):
            for sign in SIGNS:
                book.put(("active", "a"), ("piece", (word, sign)))
                self.assertEqual(book.worth(("active", "a")), ("piece", (word, sign)))
        book.put(("active", "a"), ("piece", BLANK))
        self.assertEqual(book.worth(("active", "a")), ("piece", BLANK))

    def test_numbers_and_rows(self):
        book = Book()
        for worth in (0, 1, -1, 10 ** 12 - 1, 1 - 10 ** 12, 10 ** 11):
            book.put(("box", 9), worth)
            self.assertEqual(book.worth(("box", 9)), worth)
        for text in ("", "}", "{", "}{", "{a}", "#", "~ a", "a" * 3000, "}" * 50):
            book.put(("row", 9), row(text))
            self.assertEqual(book.worth(("row", 9)), row(text))

    def test_arguments_by_names(self):
        book = Book()
        book.put(key=("box", 1), worth=2, for_all=True)
        book.put(worth=3, key=("box", 2))
        self.assertEqual((book.worth(key=("box", 1)), book.worth(("box", 2))), (2, 3))
        self.assertRaises(TypeError, book.put, ("box", 1), 2, True)
        book.begin(word="signs")
        book.leave(piece=A)
        self.assertEqual(book.end(word="signs"), [A])

    def test_kinds_are_without_those_that_are_other(self):
        book = Book()
        book.put(("kind", "?"), "gone")
        book.put(("kind", "a"), "other")
        book.put(("kind", "/"), "other")
        wanted = {**first_kinds(), "?": "gone"}
        del wanted["a"]
        self.assertEqual(book.kinds(), wanted)
        book.put(("kind", "?"), "other")
        book.put(("kind", "a"), "blank")
        self.assertEqual(book.kinds(), {**first_kinds(), "a": "blank"})
        for sign in SIGNS:
            book.put(("kind", sign), "other")
        self.assertEqual(book.kinds(), {})

    def test_numbers_and_tuples_of_other_classes_are_such(self):
        number = enum.IntEnum("number", "one two")
        pair = collections.namedtuple("pair", "word part")
        book = Book()
        book.put(pair("box", number.two), number.one)
        self.assertEqual(book.worth(("box", 2)), 1)
        book.put(("name", "a"), pair("piece", pair("letter", "a")))
        self.assertEqual(book.worth(pair("name", "a")), ("piece", A))


class RefusedTest(unittest.TestCase):
    def refused(self, made, thing, asked, *arguments, **more):
        with self.assertRaises(made) as caught:
            asked(*arguments, **more)
        self.assertIs(caught.exception.key if made == NoKey else caught.exception.thing, thing)
        self.assertIsInstance(caught.exception, MouthError)

    def setUp(self):
        self.book = Book()
        self.book.put(("box", 1), 5)
        self.book.begin("deeds")
        self.book.put(("row", 1), [A])
        self.book.leave(B)
        self.ahead = self.book.twin()

    def tearDown(self):
        self.assertEqual(self.book, self.ahead)
        self.assertEqual(worths_of(self.book), worths_of(self.ahead))

    def test_what_is_no_key(self):
        for thing in NO_KEYS + odd_things():
            with self.subTest(kind=thing.__class__):
                self.refused(NoKey, thing, self.book.worth, thing)
                for for_all in (False, True):
                    self.refused(NoKey, thing, self.book.put, thing, 0, for_all=for_all)

    def test_what_is_no_part_of_a_key(self):
        for part in odd_things():
            for word in ("kind", "name", "active", "box", "row"):
                if isinstance(part, str) and part and (word == "name" or len(part) == 1 and word in ("kind", "active")):
                    continue
                with self.subTest(word=word, kind=part.__class__):
                    key = (word, part)
                    self.refused(NoKey, key, self.book.worth, key)
                    self.refused(NoKey, key, self.book.put, key, 0)
            key = (part, "a")
            self.refused(NoKey, key, self.book.worth, key)

    def test_what_is_no_worth_there(self):
        for key in WORTHS:
            for thing in no_worths(key):
                with self.subTest(key=key, kind=thing.__class__):
                    for for_all in (False, True):
                        self.refused(NoWorth, thing, self.book.put, key, thing, for_all=for_all)

    def test_worths_of_other_keys_are_none(self):
        for key in WORTHS:
            for other, worths in WORTHS.items():
                if other[0] != key[0] and {other[0], key[0]} != {"name", "active"}:
                    for thing in worths:
                        with self.subTest(key=key, thing=thing):
                            if not (thing is None and key[0] in ("name", "active")):
                                self.refused(NoWorth, thing, self.book.put, key, thing)

    def test_truths_are_no_worths(self):
        for key in WORTHS:
            for thing in (True, False):
                self.refused(NoWorth, thing, self.book.put, key, thing)

    def test_the_key_goes_first(self):
        for key in (("box", True), ("box", 256), None, []):
            for thing in (True, None, 10 ** 12, [("hand", 1)]):
                self.refused(NoKey, key, self.book.put, key, thing)
                self.refused(NoKey, key, self.book.put, worth=thing, key=key)

    def test_what_cannot_be_left(self):
        closed = Book()
        for thing in odd_things() + [None, 0, [A], (A,), ("hand", 1), ("hand", 9), ("hand", 0), ("hand", True), "a",
                                     ("letter",), ("letter", "ab"), ["letter", "a"], ("blank", "\t"), ("name", "")]:
            with self.subTest(kind=thing.__class__):
                self.refused(NoWorth, thing, self.book.leave, thing)
                self.refused(NoWorth, thing, closed.leave, thing)
        self.assertEqual(closed, Book())

    def test_groups_at_fault(self):
        def fault(asked, *arguments):
            with self.assertRaises(Fault) as caught:
                asked(*arguments)
            self.assertEqual(caught.exception.word, "groups")
        closed = Book()
        fault(closed.end, "signs")
        fault(closed.end, "deeds")
        fault(closed.leave, A)
        fault(self.book.end, "signs")
        self.book.begin("signs")
        fault(self.book.end, "deeds")
        self.assertEqual(self.book.end("signs"), [])
        fault(self.book.end, "signs")
        other = self.book.twin()
        other.end("deeds")
        fault(other.end, "deeds")
        fault(other.leave, A)
        self.assertEqual(closed, Book())


class OwnTest(unittest.TestCase):
    """What was handed in or told, changed behind, changes no book."""

    def test_rows_that_were_handed_in(self):
        book, given = Book(), row("ab")
        book.put(("row", 0), given)
        given.append(OPEN)
        given[0] = B
        self.assertEqual(book.worth(("row", 0)), row("ab"))
        book.begin("signs")
        given = row("c")
        book.put(("row", 0), given)
        given.clear()
        self.assertEqual(book.worth(("row", 0)), row("c"))
        book.end("signs")
        self.assertEqual(book.worth(("row", 0)), row("ab"))

    def test_rows_that_were_told(self):
        book = Book()
        book.worth(("row", 1)).append(A)
        self.assertEqual(book.worth(("row", 1)), [])
        self.assertEqual(Book().worth(("row", 2)), [])
        book.put(("row", 0), row("ab"))
        told = book.worth(("row", 0))
        told.pop()
        self.assertEqual(book.worth(("row", 0)), row("ab"))
        self.assertIsNot(book.worth(("row", 0)), book.worth(("row", 0)))
        book.begin("signs")
        book.put(("row", 0), [])
        book.worth(("row", 0)).append(A)
        book.end("signs")
        book.worth(("row", 0)).append(A)
        self.assertEqual(book.worth(("row", 0)), row("ab"))

    def test_tables_that_were_told(self):
        book = Book()
        told = book.kinds()
        told["a"] = "gone"
        told.pop("b")
        self.assertEqual(book.kinds(), first_kinds())
        self.assertEqual(Book().kinds(), first_kinds())
        self.assertEqual(book, Book())

    def test_what_is_handed_in_stays(self):
        key, given = ("row", 3), row("a}")
        book = Book()
        book.begin("signs")
        book.put(key, given)
        book.worth(key)
        book.end("signs")
        self.assertEqual((key, given), (("row", 3), row("a}")))
        refused = [A, ["letter", "a"]]
        kept = copy.deepcopy(refused)
        self.assertRaises(NoWorth, book.put, key, refused)
        self.assertEqual(refused, kept)

    def test_pieces_left_that_were_told(self):
        book = Book()
        book.begin("signs")
        book.leave(A)
        twin = book.twin()
        book.end("signs").append(B)
        self.assertEqual(twin.end("signs"), [A])
        book.begin("signs")
        self.assertEqual(book.end("signs"), [])


class GroupsTest(unittest.TestCase):
    def test_groups_begin_and_end_by_both_words(self):
        book = Book()
        words = ["signs", "deeds", "deeds", "signs", "signs"]
        for number, word in enumerate(words):
            self.assertIsNone(book.begin(word))
            self.assertEqual(book.depth(), number + 1)
        for number, word in reversed(list(enumerate(words))):
            self.assertEqual(book.end(word), [])
            self.assertEqual(book.depth(), number)
        self.assertEqual(book, Book())

    def test_the_word_of_the_last_one_open_is_wanted(self):
        book = Book()
        book.begin("signs")
        book.begin("deeds")
        self.assertRaises(Fault, book.end, "signs")
        book.end("deeds")
        self.assertRaises(Fault, book.end, "deeds")
        book.end("signs")
        self.assertEqual(book.depth(), 0)

    def test_an_end_gives_back_what_was_set(self):
        for word in ("signs", "deeds"):
            for key, worths in WORTHS.items():
                for ahead in worths:
                    with self.subTest(word=word, key=key, ahead=ahead):
                        book = Book()
                        book.put(key, ahead)
                        kept = book.twin()
                        book.begin(word)
                        for worth in worths:
                            book.put(key, worth)
                            self.assertEqual(book.worth(key), worth)
                        book.end(word)
                        self.assertEqual(book.worth(key), ahead)
                        self.assertEqual(book, kept)

    def test_what_is_set_outside_stays(self):
        book = Book()
        book.put(("box", 1), 1)
        book.begin("signs")
        book.put(("box", 2), 2)
        book.end("signs")
        book.put(("box", 3), 3)
        self.assertEqual([book.worth(("box", number)) for number in (1, 2, 3)], [1, 0, 3])

    def test_several_deep(self):
        book, key = Book(), ("box", 0)
        for depth in range(1, 6):
            book.begin("signs")
            if depth != 3:
                book.put(key, depth)
                book.put(key, depth * 10)
        told = []
        while book.depth():
            told.append(book.worth(key))
            book.end("signs")
        self.assertEqual(told, [50, 40, 20, 20, 10])
        self.assertEqual(book.worth(key), 0)

    def test_giving_back_sets_nothing(self):
        book, key = Book(), ("box", 0)
        book.begin("signs")
        book.begin("signs")
        book.put(key, 1)
        book.end("signs")
        like = Book()
        like.begin("signs")
        self.assertEqual(book, like)
        book.put(key, 2, for_all=True)
        book.end("signs")
        self.assertEqual(book.worth(key), 2)

    def test_set_for_all_it_is_so_outside_of_all_groups(self):
        for key, worths in WORTHS.items():
            with self.subTest(key=key):
                book = Book()
                for word in ("signs", "deeds", "signs"):
                    book.begin(word)
                    book.put(key, worths[2])
                book.put(key, worths[1], for_all=True)
                for word in ("signs", "deeds", "signs"):
                    self.assertEqual(book.worth(key), worths[1])
                    book.end(word)
                self.assertEqual(book.worth(key), worths[1])
                book.put(key, worths[0], for_all=True)
                self.assertEqual(book, Book())

    def test_set_for_all_other_keys_are_given_back(self):
        book = Book()
        book.put(("box", 2), 7)
        book.begin("signs")
        book.put(("box", 1), 1)
        book.put(("box", 2), 2)
        book.put(("box", 1), 3, for_all=True)
        book.end("signs")
        self.assertEqual((book.worth(("box", 1)), book.worth(("box", 2))), (3, 7))

    def test_set_for_all_and_then_not(self):
        book, key = Book(), ("box", 0)
        book.put(key, 1)
        book.begin("signs")
        book.put(key, 2)
        book.begin("deeds")
        book.put(key, 3)
        book.put(key, 4, for_all=True)
        book.put(key, 5)
        book.put(key, 6)
        self.assertEqual(book.worth(key), 6)
        book.end("deeds")
        self.assertEqual(book.worth(key), 4)
        book.put(key, 7)
        book.end("signs")
        self.assertEqual(book.worth(key), 4)

    def test_set_for_all_within_and_set_again_outside_of_it(self):
        book, key = Book(), ("row", 4)
        book.begin("signs")
        book.put(key, [A])
        book.begin("signs")
        book.put(key, [B], for_all=True)
        book.end("signs")
        self.assertEqual(book.worth(key), [B])
        book.put(key, [OPEN])
        book.end("signs")
        self.assertEqual(book.worth(key), [B])

    def test_set_for_all_without_groups_is_just_set(self):
        book, other = Book(), Book()
        book.put(("box", 0), 1, for_all=True)
        other.put(("box", 0), 1)
        self.assertEqual(book, other)

    def test_kinds_are_given_back(self):
        book = Book()
        book.begin("signs")
        book.put(("kind", "a"), "gone")
        book.put(("kind", "?"), "letter")
        self.assertEqual(book.kinds(), {**first_kinds(), "a": "gone", "?": "letter"})
        book.end("signs")
        self.assertEqual(book.kinds(), first_kinds())


class LeftTest(unittest.TestCase):
    def test_pieces_are_told_by_the_end_in_order(self):
        book = Book()
        book.begin("signs")
        pieces = [A, OPEN, SHUT, A, MARK, BLANK, ("name", "a b"), ("active", "~"), ("other", "}")]
        for piece in pieces:
            self.assertIsNone(book.leave(piece))
        told = book.end("signs")
        self.assertEqual(told, pieces)
        self.assertIsInstance(told, list)

    def test_pieces_are_left_for_the_last_open_group(self):
        book = Book()
        book.begin("signs")
        book.leave(A)
        book.begin("deeds")
        book.leave(B)
        book.leave(A)
        self.assertEqual(book.end("deeds"), [B, A])
        book.leave(OPEN)
        book.begin("deeds")
        self.assertEqual(book.end("deeds"), [])
        self.assertEqual(book.end("signs"), [A, OPEN])

    def test_setting_leaves_them(self):
        book = Book()
        book.begin("signs")
        book.leave(A)
        book.put(("box", 1), 1)
        book.put(("box", 1), 1, for_all=True)
        book.leave(B)
        self.assertEqual(book.end("signs"), [A, B])


class AlikeTest(unittest.TestCase):
    def test_unlike_ones_are_unlike(self):
        made = changed_books()
        for number, one in enumerate(made):
            for other_number, other in enumerate(made):
                alike = number == other_number
                if (one == other) is not alike or (one != other) is alike:
                    self.fail((number, other_number))

    def test_alike_ones_are_alike(self):
        for one, other in zip(changed_books(), changed_books()):
            self.assertIs(one == other, True)
            self.assertIs(one != other, False)

    def test_worths_set_and_set_back_are_alike(self):
        for key, worths in WORTHS.items():
            for worth in worths:
                book = Book()
                book.put(key, worth)
                book.put(key, worths[0])
                with self.subTest(key=key, worth=worth):
                    self.assertEqual(book, Book())

    def test_what_was_done_ahead_of_it_is_all_one(self):
        one, other = Book(), Book()
        for number in (1, 2, 3):
            one.put(("box", number), number)
            other.put(("box", 4 - number), 4 - number)
        one.begin("signs")
        one.leave(A)
        one.end("signs")
        self.assertEqual(one, other)
        one.begin("signs")
        other.begin("signs")
        for number in (1, 2, 3):
            one.put(("row", number), [A])
            other.put(("row", 4 - number), [A])
        self.assertEqual(one, other)

    def test_what_groups_would_give_back(self):
        key, made = ("box", 0), []
        for ahead, within in ((1, 3), (2, 3), (3, 3)):
            made.append(Book())
            made[-1].put(key, ahead)
            made[-1].begin("signs")
            made[-1].put(key, within)
        bare = Book()
        bare.put(key, 3)
        bare.begin("signs")
        made.append(bare)
        for one in made:
            self.assertEqual(one.worth(key), 3)
            self.assertEqual([one == other for other in made].count(True), 1)
        for one in made[:3]:
            one.put(key, 3, for_all=True)
            self.assertEqual(one, bare)

    def test_in_which_group_it_is_given_back(self):
        one, other = Book(), Book()
        for book, many in ((one, 1), (other, 2)):
            for number in (1, 2):
                book.begin("signs")
                if number == many:
                    book.put(("box", 0), 1)
        self.assertNotEqual(one, other)
        one.end("signs")
        other.end("signs")
        self.assertNotEqual(one, other)
        one.end("signs")
        other.end("signs")
        self.assertEqual(one, other)

    def test_what_is_no_book_is_like_none(self):
        for book in (Book(), changed_books()[-1]):
            for thing in odd_things() + [None, 0, book.kinds(), worths_of(book), book.twin, Book]:
                self.assertIs(book == thing, False)
                self.assertIs(book != thing, True)
                self.assertIs(thing == book, False)


class TwinTest(unittest.TestCase):
    def test_a_twin_is_alike(self):
        for book in changed_books():
            twin = book.twin()
            self.assertIsInstance(twin, Book)
            self.assertIsNot(twin, book)
            self.assertEqual(twin, book)
            self.assertEqual(twin.depth(), book.depth())
            self.assertEqual(twin.kinds(), book.kinds())

    def test_it_goes_on_by_itself(self):
        def all_told(book):
            return worths_of(book), book.depth(), book.kinds()
        for turned in (False, True):
            book = Book()
            book.put(("row", 1), [A])
            book.begin("signs")
            book.put(("box", 1), 1)
            book.leave(A)
            kept, told = book.twin(), all_told(book)
            twin = book.twin()
            one, other = (twin, book) if turned else (book, twin)
            one.put(("box", 1), 2)
            one.put(("kind", "a"), "gone")
            one.put(("row", 1), [B], for_all=True)
            one.leave(B)
            self.assertEqual(other, kept)
            self.assertNotEqual(one, other)
            one.begin("deeds")
            one.put(("box", 1), 3)
            self.assertEqual(all_told(other), told)
            one.end("deeds")
            self.assertEqual(one.end("signs"), [A, B])
            self.assertEqual(other, kept)
            other.leave(OPEN)
            self.assertEqual(other.end("signs"), [A, OPEN])
            self.assertEqual(other.worth(("row", 1)), [A])
            self.assertEqual(one.worth(("row", 1)), [B])

    def test_twins_of_twins_and_of_several_groups(self):
        book = Book()
        for number in range(4):
            book.begin("deeds")
            book.put(("box", 0), number + 1)
            book.leave(("other", str(number)))
        twin = book.twin().twin()
        for number in (3, 2, 1, 0):
            self.assertEqual(twin.worth(("box", 0)), number + 1)
            self.assertEqual(twin.end("deeds"), [("other", str(number))])
        self.assertEqual(twin, Book())
        self.assertEqual(book.depth(), 4)


class Told:
    """What point 12 says, told off the list of all that was done."""

    def __init__(self):
        self.done = []

    def open_groups(self, done):
        """Where each group that is open there was begun."""
        begun = []
        for number, (word, *rest) in enumerate(done):
            if word == "begin":
                begun.append(number)
            elif word == "end":
                begun.pop()
        return begun

    def worth(self, key, many=None):
        """The worth behind the first so many deeds."""
        done = self.done[:many]
        for number in reversed(range(len(done))):
            word, *rest = done[number]
            if word == "put" and rest[0] == key:
                return rest[1]
            if word == "end":
                begun = self.open_groups(done[:number])
                since = [at for at in range(begun[-1], number) if done[at][0] == "put" and done[at][1] == key]
                for_all = [at for at in since if done[at][3]]
                since = [at for at in since if not for_all or at > for_all[-1]]
                own = [at for at in since if self.open_groups(done[:at]) == begun]
                return self.worth(key, own[0] if own else number)
        return 0


class ByTellingTest(unittest.TestCase):
    def test_many_deeds(self):
        chance = random.Random(12)
        keys = [("box", number) for number in range(3)]
        for _ in range(150):
            book, model, words = Book(), Told(), []
            for _ in range(30):
                deed = chance.choice(("put", "put", "put", "all", "begin", "begin", "end", "end"))
                if deed in ("put", "all"):
                    key, worth = chance.choice(keys), chance.randint(0, 9)
                    book.put(key, worth, for_all=deed == "all")
                    model.done.append(("put", key, worth, deed == "all"))
                elif deed == "begin":
                    words.append(chance.choice(("signs", "deeds")))
                    book.begin(words[-1])
                    model.done.append(("begin",))
                elif words:
                    book.end(words.pop())
                    model.done.append(("end",))
                self.assertEqual([book.worth(key) for key in keys], [model.worth(key) for key in keys], model.done)
                self.assertEqual(book.depth(), len(words))


class PlaceTest(unittest.TestCase):
    def test_the_class_has_its_methods_itself(self):
        self.assertEqual(Book.__module__, books.__name__)
        for name in ("__init__", "worth", "put", "begin", "end", "leave", "kinds", "depth", "twin", "__eq__"):
            self.assertIn(name, vars(Book))


if __name__ == "__main__":
    unittest.main()
