"""Point 18, and points 2 and 3 (b) of mouthrules/plain.py."""

import copy
import inspect
import unittest

from helping import (A, B, BLANK, ReadingCase, no_dicts_of_texts, no_mosts, no_texts_at_all, refused_with, row)
from mouthrules import plain as plain_file
from mouthrules.books import Book
from mouthrules.errors import MouthError, NoMost, NoText, NoTexts
from mouthrules.plain import MOST, plain


class ToldTest(ReadingCase):
    def test_it_is_a_tuple_of_five(self):
        told = plain("ab")
        self.assertEqual(told, ("over", [A, B], (2,), 2, Book()))
        self.assertIsInstance(told, tuple)
        self.assertEqual([part.__class__ for part in told], [str, list, tuple, int, Book])

    def test_each_word(self):
        for word, text in (("over", "a"), ("unknown", "\\q"), ("ends", "\\later"), ("use", "\\rule\\x a{}\\x b"),
                           ("groups", "}"), ("marks", "\\rule a"), ("ask", "\\fi"), ("name", "\\endname"),
                           ("number", "\\box"), ("great", "\\set1=1000000000000"), ("text", "\\text{q}"),
                           ("kind", "\\kind{}{}"), ("mark", "#"), ("all", "\\all a"), ("long", "\\rule\\x{\\x\\x}\\x")):
            with self.subTest(word=word):
                self.assertEqual(plain(text, most=5000)[0], word)

    def test_more(self):
        self.assertEqual(plain("", most=0), ("more", [], (0,), 0, Book()))
        self.assertEqual(plain("", most=1), ("over", [], (0,), 0, Book()))
        self.assertEqual(plain("ab", most=0), ("more", [], (0,), 0, Book()))
        self.assertEqual(plain("ab", most=1), ("more", [A], (1,), 1, Book()))
        self.assertEqual(plain("ab", most=2), ("more", [A, B], (2,), 2, Book()))
        self.assertEqual(plain("ab", most=3), ("over", [A, B], (2,), 2, Book()))
        self.assertEqual(plain("a\\q", most=1), ("more", [A], (1,), 1, Book()))
        self.assertEqual(plain("a\\q", most=2), ("unknown", [A], (1,), 1, Book()))
        self.assertEqual(plain("\\q", most=0)[0], "more")
        self.assertEqual(plain("{", most=1)[0], "more")
        self.assertEqual(plain("{", most=2)[0], "groups")

    def test_most_up_to_its_bound(self):
        self.assertEqual(MOST, 2000)
        self.assertEqual(plain("a" * 2000)[0], "more")
        self.assertEqual(plain("a" * 1999)[0], "over")
        self.assertEqual(plain("a" * 6000, most=5000)[2:4], ((5000,), 5000))
        self.assertEqual(plain("a" * 2500, most=5000)[0], "over")

    def test_rounds(self):
        for text, rounds in (("", 0), ("abc", 3), ("\\set1=5", 1), ("\\rule\\x{ab}\\x", 4), ("{}", 2), ("a  b", 3), ("!abc", 0),
                             ("\\iflike aa\\else b\\fi", 2), ("\\iflike ab b\\fi", 1), ("\\figures12 ", 3), ("\\skip", 1)):
            with self.subTest(text=text):
                told = plain(text)
                self.assertEqual((told[0], told[3]), ("over", rounds))


class PlacesTest(unittest.TestCase):
    TEXTS = {"a": "12", "b": "3\\text{a}4!r", "e": ""}

    def places(self, text, texts=None):
        """The places behind each number of rounds, up to the end."""
        told = []
        while True:
            word, row_told, place, rounds, book = plain(text, texts=self.TEXTS if texts is None else texts, most=len(told))
            if word != "more":
                return told, word, plain(text, texts=self.TEXTS if texts is None else texts)[2]
            told.append(place)

    def test_all_texts_that_wait(self):
        self.assertEqual(self.places("x\\text{b}y"), (
            [(0,), (1,), (9, 0), (9, 1), (9, 9, 0), (9, 9, 1), (9, 9, 2), (9, 10), (10,)], "over", (10,)))

    def test_a_put_one_waits_till_below_it_is_wanted(self):
        self.assertEqual(self.places("\\text{a}"), ([(0,), (8, 0), (8, 1), (8, 2)], "over", (8,)))
        self.assertEqual(self.places("\\text{e}\\text{e}!"), ([(0,), (8, 0), (16, 0)], "over", (17,)))
        self.assertEqual(self.places("\\rule\\x{\\text{e}a}\\x."), (
            [(0,), (18,), (20,), (20, 0), (20,), (21,)], "over", (21,)))

    def test_a_row_within_a_text(self):
        self.assertEqual(self.places("\\rule\\x{a}\\text{c}.", {"c": "\\x\\x"}), (
            [(0,), (10,), (18, 0), (18, 2), (18, 2), (18, 4), (18, 4), (19,)], "over", (19,)))

    def test_what_a_round_reads_ahead(self):
        self.assertEqual(self.places("\\figures5\\skip a"), ([(0,), (15,), (15,), (15,), (16,)], "over", (16,)))
        self.assertEqual(self.places("\\figures5"), ([(0,), (9,), (9,)], "over", (9,)))
        self.assertEqual(self.places("a  b"), ([(0,), (1,), (3,), (4,)], "over", (4,)))
        self.assertEqual(self.places("!r\na!s"), ([(0,), (4,)], "over", (6,)))

    def test_over_tells_the_first_length_alone(self):
        for text in ("", "a", "!abc", "a!r\n", "\\text{a}", "\\text{b}!x", "\\skip   "):
            self.assertEqual(plain(text, texts=self.TEXTS)[2], (len(text),))

    def test_at_a_fault_those_from_ahead_of_the_round(self):
        for text, place in (("ab\\q", (2,)), ("\\text{f}", (8, 1)), ("!r\n\\q", (0,)), ("a!r\n\\q", (1,)), ("\\", (0,)),
                            ("a!r\n\\", (1,)), ("\\text{f}}", (8, 1)), ("{\\text{a}", (9, 2)), ("\\set1=\\text{a}\\q", (16,)), ("\\set1=\\text{a}x\\set2=\\text{a}{\\", (30,)),
                            ("\\text{g}", (8, 0)), ("\\text{a}\\q", (8, 2))):
            with self.subTest(text=text):
                told = plain(text, texts={**self.TEXTS, "f": "x\\q", "g": "\\"})
                self.assertNotIn(told[0], ("over", "more"))
                self.assertEqual(told[2], place)


class KindsTest(ReadingCase):
    def test_a_sign_gets_its_kind_when_it_is_read(self):
        self.reads(
            ("a\\kind{a}{gone}a", "over a"),
            ("\\rule\\x#1{\\kind{?}{letter}#1}\\x??", "over ??"),
            ("\\kind{?}{gone}???a", "over a"),
            ("\\like\\x=a\\kind{a}{gone}\\x a", "over a"),
            ("\\keep1={a}\\kind{a}{gone}\\row1 a", "over a"),
            ("\\rule\\x{a}\\kind{a}{gone}\\x a", "over a"),
            # The sign behind a rule's group isn't read by it, that behind a number is.
            ("\\rule\\x#1{\\kind{?}{gone}}\\x{}?a", "over a"),
            ("\\rule\\x{\\kind{?}{gone}}\\set1=5\\x?a", "over a"),
            ("\\kind{?}{letter}\\set1=5?\\kind{?}{gone}?", "over ?"),
            ("\\kind{\\ }{other}\\x a", "unknown "),
            ("\\rule\\x{}\\kind{\\ }{letter}\\x a", "unknown "),
            ("\\kind{\\ }{other}\\skip a", "over  a"),
        )
        self.assertEqual(plain("?\\kind{?}{letter}?")[1], [("other", "?"), ("letter", "?")])

    def test_no_sign_is_read_farther_than_a_piece_needs(self):
        self.assertEqual(plain("\\later", most=0)[2], (0,))
        for text, place in (("ab", 1), ("\\skip  a", 7), ("\\?  ", 2), (" \t\na", 3), ("~~", 1), ("!r\n a", 4), ("{{", 1)):
            book = Book()
            book.put(("name", "?"), ("deed", "skip"))
            book.put(("active", "~"), ("deed", "skip"))
            self.assertEqual(plain(text, book=book, most=1)[2], (place,))

    def test_by_the_kinds_of_a_book(self):
        book = Book()
        book.put(("kind", "?"), "gone")
        book.put(("kind", "a"), "blank")
        self.reads(("?b?aab", "over b b"), book=book)


class GivenTest(unittest.TestCase):
    def test_a_twin_of_the_book_is_read_by(self):
        book = Book()
        book.put(("box", 1), 1)
        kept = book.twin()
        told = plain("\\set1=2 \\kind{a}{gone}{", book=book)
        self.assertEqual(book, kept)
        self.assertEqual(told[4].worth(("box", 1)), 2)
        self.assertIsNot(told[4], book)
        told[4].put(("box", 1), 3)
        self.assertEqual(book, kept)
        self.assertEqual(plain("", book=book)[4], kept)
        self.assertIsNot(plain("", book=book)[4], book)

    def test_each_reading_has_a_new_book_else(self):
        plain("\\set1=2 ")[4].put(("box", 2), 5)
        self.assertEqual(plain("")[4], Book())
        self.assertEqual(plain("", book=None)[4], Book())

    def test_texts_stay(self):
        texts = {"a": "x", "b": "\\text{a}"}
        kept = copy.deepcopy(texts)
        plain("\\text{b}", texts=texts)
        self.assertEqual(texts, kept)
        self.assertEqual(plain("\\text{b}", texts=dict(reversed(texts.items()))), plain("\\text{b}", texts=texts))

    def test_what_is_told_is_the_askers_own(self):
        told = plain("ab", texts={"a": "b"})
        told[1].append(BLANK)
        told[4].begin("signs")
        self.assertEqual(plain("ab"), ("over", [A, B], (2,), 2, Book()))

    def test_arguments_by_names(self):
        book = Book()
        book.put(("box", 1), 7)
        self.assertEqual(plain(most=2, texts={"a": "b"}, book=book, text="\\text{a}")[:4], ("more", [B], (8, 1), 2))
        self.assertRaises(TypeError, plain, "a", book)
        self.assertRaises(TypeError, plain, "a", None, {}, 5)
        self.assertEqual(plain("a", book=None, texts=None, most=5)[0], "over")
        told = inspect.signature(plain)
        self.assertEqual([told.parameters[name].default for name in ("book", "texts", "most")], [None, None, 2000])

    def test_it_is_told_alike_twice(self):
        for text in ("\\rule\\x{ab}\\x{", "\\q", "\\name q\\endname"):
            self.assertEqual(plain(text), plain(text))


class RefusedTest(unittest.TestCase):
    def test_what_is_no_text(self):
        for thing in no_texts_at_all():
            with self.subTest(kind=thing.__class__):
                refused_with(self, NoText, "thing", thing, plain, thing)
                refused_with(self, NoText, "thing", thing, plain, thing, texts=5, most=-1)
                refused_with(self, NoText, "thing", thing, plain, most=True, texts=[], text=thing)

    def test_what_are_no_texts(self):
        for thing in no_dicts_of_texts():
            with self.subTest(kind=thing.__class__):
                refused_with(self, NoTexts, "thing", thing, plain, "a", texts=thing)
                refused_with(self, NoTexts, "thing", thing, plain, "\\q", most=-1, texts=thing)
        for thing in ({}, {"a": ""}, {"abcdefgh": "x", "z": "\\"}, None):
            self.assertEqual(plain("a", texts=thing)[0], "over")

    def test_what_is_no_number_of_rounds(self):
        for thing in no_mosts():
            with self.subTest(kind=thing.__class__):
                refused_with(self, NoMost, "most", thing, plain, "a", most=thing)
                refused_with(self, NoMost, "most", thing, plain, "\\q", texts={"a": "b"}, most=thing)
        for most in (0, 1, 4999, 5000):
            plain("a", most=most)

    def test_they_are_told_of_all(self):
        for made in (NoText, NoTexts, NoMost):
            self.assertTrue(issubclass(made, MouthError))

    def test_the_function_stands_in_its_file(self):
        self.assertEqual(plain.__module__, plain_file.__name__)


if __name__ == "__main__":
    unittest.main()
