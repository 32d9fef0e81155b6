"""Points 4 and 5, and point 2 of mouthrules/pieces.py."""

import collections
import copy
import enum
import unittest

from mouthrules import pieces
from mouthrules.errors import MouthError, NoKinds, NoSign
from mouthrules.pieces import (KINDS, are_kinds, first_kinds, is_balanced, is_piece, is_row,
                               kind_of)

SIGNS = [chr(number) for number in range(32, 127)] + ["\t", "\n"]
NO_SIGNS = ["", "ab", "\r", "\x1f", "\x7f", "\x80", "\x00", "\x0b", "\u00e4", "\u0131", "\ud800", "\U0001f600",
            "a ", "\n\n"]
SIGN_WORDS = ("open", "shut", "mark", "letter", "other", "active")


def endless_list():
    endless = ["open"]
    endless.append(endless)
    return endless


def endless_dict():
    endless = {}
    endless["a"] = endless
    return endless


def no_texts():
    """Things that are none of texts."""
    return [None, True, False, 0, 1, 9, -1, 10 ** 70, 1.0, 1.5, float("nan"), b"a", bytearray(b"a"), (), ("a",),
            [], ["a"], {}, {"a": "letter"}, {"a"}, frozenset("a"), object(), int, len, lambda: 1, range(3),
            iter("a"), ValueError("a"), endless_list(), endless_dict(), ("name", "a"), [("name", "a")], Ellipsis]


class KindsTest(unittest.TestCase):
    def test_kinds_are_the_ten_words_in_order(self):
        self.assertEqual(KINDS, ("escape", "open", "shut", "mark", "letter", "other", "blank", "active", "remark",
                                 "gone"))
        self.assertIsInstance(KINDS, tuple)

    def test_the_first_table(self):
        wanted = {"\\": "escape", "{": "open", "}": "shut", "#": "mark", "~": "active", "!": "remark",
                  " ": "blank", "\t": "blank", "\n": "blank"}
        for sign in "abcdefghijklmnopqrstuvwxyz":
            wanted[sign] = wanted[sign.upper()] = "letter"
        self.assertEqual(first_kinds(), wanted)
        self.assertTrue(are_kinds(first_kinds()))

    def test_the_first_table_is_a_new_dict_each_time(self):
        one = first_kinds()
        one["a"] = "gone"
        one["?"] = "escape"
        del one["\\"]
        self.assertEqual(first_kinds()["a"], "letter")
        self.assertNotIn("?", first_kinds())
        self.assertEqual(kind_of(first_kinds(), "\\"), "escape")
        self.assertIsNot(first_kinds(), first_kinds())

    def test_tables_of_kinds(self):
        self.assertIs(are_kinds({}), True)
        for kind in KINDS:
            self.assertIs(are_kinds({"a": kind}), True)
        self.assertIs(are_kinds({sign: "gone" for sign in SIGNS}), True)
        self.assertIs(are_kinds(collections.OrderedDict(a="other")), True)

    def test_what_is_nearly_a_table(self):
        good = first_kinds()
        for sign in NO_SIGNS + [0, 1, True, None, ("a",), (), b"a", 1.5, ("name", "a")]:
            with self.subTest(sign=sign):
                self.assertIs(are_kinds({sign: "letter"}), False)
                self.assertIs(are_kinds({**good, sign: "letter"}), False)
        for kind in ["", "letters", "Letter", "name", "hand", "letter ", "none"] + no_texts():
            with self.subTest(kind=kind):
                self.assertIs(are_kinds({"a": kind}), False)
                self.assertIs(are_kinds({**good, "a": kind}), False)

    def test_what_is_no_dict_is_no_table(self):
        for thing in no_texts() + SIGNS + list(KINDS) + [[("a", "letter")], (("a", "letter"),), ["a"], first_kinds]:
            if thing == {} or thing == {"a": "letter"}:
                continue
            with self.subTest(thing=thing):
                self.assertIs(are_kinds(thing), False)

    def test_kind_of(self):
        kinds = first_kinds()
        for sign in SIGNS:
            with self.subTest(sign=sign):
                self.assertEqual(kind_of(kinds, sign), kinds.get(sign, "other"))
                self.assertEqual(kind_of({}, sign), "other")
                self.assertEqual(kind_of({sign: "gone"}, sign), "gone")
        self.assertEqual(kind_of({"a": "blank"}, "a"), "blank")
        self.assertEqual(kind_of({"a": "blank"}, "b"), "other")
        self.assertEqual(kind_of({"a": "other"}, "a"), "other")

    def test_kind_of_what_is_no_sign(self):
        for thing in NO_SIGNS + no_texts():
            with self.subTest(thing=thing):
                with self.assertRaises(NoSign) as caught:
                    kind_of(first_kinds(), thing)
                self.assertIs(caught.exception.sign, thing)
                self.assertIsInstance(caught.exception, MouthError)

    def test_kind_of_what_is_no_table(self):
        for thing in no_texts() + [{"a": "letters"}, {"ab": "letter"}, {1: "letter"}, {"a": []}, endless_dict(), "a"]:
            if thing == {} or thing == {"a": "letter"}:
                continue
            for sign in ("a", "ab", None, [], {}):
                with self.subTest(thing=thing, sign=sign):
                    with self.assertRaises(NoKinds) as caught:
                        kind_of(thing, sign)
                    self.assertIs(caught.exception.thing, thing)

    def test_kind_of_by_names(self):
        self.assertEqual(kind_of(kinds={"a": "gone"}, sign="a"), "gone")
        self.assertEqual(kind_of(sign="a", kinds={"a": "gone"}), "gone")

    def test_nothing_handed_in_is_changed(self):
        kinds = collections.defaultdict(lambda: "gone", {"a": "letter"})
        self.assertEqual(kind_of(kinds, "b"), "other")
        self.assertEqual(dict(kinds), {"a": "letter"})
        refused = {"a": ["letter"]}
        self.assertRaises(NoKinds, kind_of, refused, "a")
        self.assertEqual(refused, {"a": ["letter"]})

    def test_a_table_changed_behind_the_call_is_asked_anew(self):
        kinds = {"a": "letter"}
        self.assertEqual(kind_of(kinds, "a"), "letter")
        kinds["a"] = "gone"
        self.assertEqual(kind_of(kinds, "a"), "gone")
        kinds["a"] = 1
        self.assertRaises(NoKinds, kind_of, kinds, "a")

    def test_the_order_of_keys_is_all_one(self):
        kinds = first_kinds()
        turned = dict(reversed(list(kinds.items())))
        for sign in SIGNS:
            self.assertEqual(kind_of(turned, sign), kind_of(kinds, sign))


class PieceTest(unittest.TestCase):
    def test_sign_pieces_and_active_ones(self):
        for word in SIGN_WORDS:
            for sign in SIGNS:
                with self.subTest(word=word, sign=sign):
                    self.assertIs(is_piece((word, sign)), True)
            for sign in NO_SIGNS + no_texts():
                with self.subTest(word=word, sign=sign):
                    self.assertIs(is_piece((word, sign)), False)

    def test_blank_ones(self):
        self.assertIs(is_piece(("blank", " ")), True)
        for sign in SIGNS + NO_SIGNS + no_texts():
            if sign != " ":
                with self.subTest(sign=sign):
                    self.assertIs(is_piece(("blank", sign)), False)

    def test_names(self):
        for name in SIGNS + ["a" * 30, "ab", " ", "\n\t", "\\\\", " a b ", "%{}", "~" * 30]:
            with self.subTest(name=name):
                self.assertIs(is_piece(("name", name)), True)
        nearly = ["", "a" * 31, "a" * 32, "a\r", "\u00e4b", "a\x7f", "a" * 29 + "\x00", "a" * 30 + "\n"]
        for name in nearly + no_texts():
            with self.subTest(name=name):
                self.assertIs(is_piece(("name", name)), False)

    def test_hands(self):
        for number in range(1, 10):
            self.assertIs(is_piece(("hand", number)), True)
        for number in [0, 10, -1, 11, 10 ** 60, True, False, None, 1.0, 1.5, "1", "a", b"1", [1], (1,), {1: 1}, {1}]:
            with self.subTest(number=number):
                self.assertIs(is_piece(("hand", number)), False)

    def test_words_that_are_none_of_pieces(self):
        for word in ["", "escape", "remark", "gone", "Open", "open ", "names", "more", "row", "opens"] + no_texts():
            for signs in ("a", " ", 1, "\\"):
                with self.subTest(word=word, signs=signs):
                    self.assertIs(is_piece((word, signs)), False)

    def test_forms_that_are_none_of_pieces(self):
        for thing in [("open",), (), ("open", "{", "{"), ["open", "{"], ["name", "a"], ["hand", 1], "open",
                      {"open": "{"}, {"name", "a"}, ("{", "open"), (("open", "{"),), (("open", "{"), "{"),
                      ("more",), ("open", ("{",)), ("open", ["{"]), ("name", ("a", "b")), ("name", ["a"]),
                      (["open"], "{"), (("open",), "{"), ({"open": 1}, "{"), frozenset(("open", "{"))]:
            with self.subTest(thing=thing):
                self.assertIs(is_piece(thing), False)
        for thing in no_texts():
            if thing != ("name", "a"):
                with self.subTest(thing=thing):
                    self.assertIs(is_piece(thing), False)

    def test_tuples_of_other_classes_are_tuples(self):
        pair = collections.namedtuple("pair", "word signs")
        self.assertIs(is_piece(pair("name", "a")), True)
        self.assertIs(is_piece(pair("name", "")), False)

    def test_whole_numbers_of_other_classes_are_whole_numbers(self):
        number = enum.IntEnum("number", "one two")
        self.assertIs(is_piece(("hand", number.two)), True)

    def test_deep_things(self):
        deep = ("name", "a")
        for _ in range(5000):
            deep = ("name", deep)
        self.assertIs(is_piece(deep), False)
        self.assertIs(is_row([deep]), False)
        self.assertIs(are_kinds({"a": deep}), False)


OPEN, SHUT, A, BLANK = ("open", "{"), ("shut", "}"), ("letter", "a"), ("blank", " ")


class RowTest(unittest.TestCase):
    def test_rows(self):
        for row in [[], [A], [A, BLANK, OPEN, SHUT], [SHUT], [OPEN], [("hand", 1), ("hand", 1)],
                    [("name", "\n")] * 3000, [("mark", "#"), ("other", "1"), ("active", "~")]]:
            self.assertIs(is_row(row), True)

    def test_what_is_no_row(self):
        nearly = [(), (A,), (A, BLANK), A, {0: A}, {A}, "a", [A, "a"], [[A]], [A, None], [A, ["letter", "a"]],
                  [("hand", True)], [("hand", 0)], [("hand", 10)], [("name", "")], [("blank", "\t")], [A, ("more",)],
                  [A, ()], [A, [A]], ["a"], [0], [None], range(0), iter([A]), endless_list(), [{"letter": "a"}],
                  {}, None, True, 1]
        for thing in nearly:
            with self.subTest(thing=thing):
                self.assertIs(is_row(thing), False)
                self.assertIs(is_balanced(thing), False)
        for thing in no_texts():
            if thing != [] and thing != [("name", "a")]:
                with self.subTest(thing=thing):
                    self.assertIs(is_row(thing), False)
                    self.assertIs(is_balanced(thing), False)

    def test_balanced_rows(self):
        for row in [[], [A], [OPEN, SHUT], [OPEN, A, SHUT, A, OPEN, OPEN, SHUT, SHUT], [("open", "("), ("shut", "]")],
                    [OPEN] * 1500 + [SHUT] * 1500, [("active", "{"), A], [("name", "}")], [("other", "}")],
                    [("hand", 1), OPEN, ("hand", 2), SHUT], [("letter", "{")]]:
            self.assertIs(is_balanced(row), True)

    def test_rows_that_are_not_balanced(self):
        for row in [[OPEN], [SHUT], [SHUT, OPEN], [OPEN, SHUT, SHUT, OPEN], [OPEN, OPEN, SHUT], [OPEN, SHUT, SHUT],
                    [A, SHUT, OPEN, A], [OPEN] * 1500 + [SHUT] * 1499, [("open", "a")], [("shut", "a")],
                    [OPEN, ("name", "}")], [OPEN, ("letter", "}")]]:
            with self.subTest(row=row[:6]):
                self.assertIs(is_row(row), True)
                self.assertIs(is_balanced(row), False)

    def test_a_tuple_of_pieces_is_no_row(self):
        self.assertIs(is_row((OPEN, SHUT)), False)
        self.assertIs(is_balanced((OPEN, SHUT)), False)
        self.assertIs(is_balanced(()), False)

    def test_arguments_by_names(self):
        self.assertIs(is_row(thing=[A]), True)
        self.assertIs(is_balanced(thing=[OPEN]), False)
        self.assertIs(is_piece(thing=A), True)
        self.assertIs(are_kinds(thing={}), True)

    def test_nothing_handed_in_is_changed(self):
        row = [OPEN, A, ["letter"], SHUT]
        kept = copy.deepcopy(row)
        is_row(row)
        is_balanced(row)
        self.assertEqual(row, kept)

    def test_asked_twice_alike_it_is_told_alike_and_anew_if_changed(self):
        row = [OPEN]
        self.assertIs(is_balanced(row), False)
        self.assertIs(is_balanced(row), False)
        row.append(SHUT)
        self.assertIs(is_balanced(row), True)
        row.append(None)
        self.assertIs(is_row(row), False)


class PlaceTest(unittest.TestCase):
    def test_all_is_defined_in_this_file(self):
        for told in (first_kinds, are_kinds, is_piece, kind_of, is_row, is_balanced):
            self.assertEqual(told.__module__, pieces.__name__)


if __name__ == "__main__":
    unittest.main()
