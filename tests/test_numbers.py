"""Point 14: numbers as they are read by figures, row, set and ifless."""

import unittest

from helping import ReadingCase, row
from mouthrules.books import Book
from mouthrules.plain import plain

GREAT = 10 ** 12


class NumbersTest(ReadingCase):
    def number(self, text, wanted, behind="", **more):
        """What figures tells of a number, and what is read behind it."""
        self.reads(("\\figures" + text, f"over {wanted}{behind}"), **more)

    def test_figures(self):
        for text, wanted in (("0", 0), ("7", 7), ("007", 7), ("10", 10), ("255", 255), ("256", 256),
                             ("999999999999", GREAT - 1), ("0" * 50 + "1", 1)):
            self.number(text, wanted)
            self.number("-" + text, -wanted)

    def test_blanks_and_turns_ahead(self):
        for lead, turn in ((" ", 1), ("-", -1), ("--", 1), ("---", -1), ("- -", 1), (" - ", -1), ("\n\t - - -\n", -1)):
            self.number(lead + "5", 5 * turn)
        self.number("\\x\\x\\x5", -5, book=self.book_with("x", row("- ")))

    def book_with(self, name, body):
        book = Book()
        book.put(("name", name), ("rule", (), tuple(body)))
        return book

    def test_one_blank_behind_is_passed(self):
        self.number("5 a", 5, "a")
        self.number("5  \n a", 5, "a")
        self.number("5\\x a", 5, " a", book=self.book_with("x", row("  ")))
        self.number("5\\x6", 5, " 6", book=self.book_with("x", row("  ")))
        self.number("5 6", 5, "6")

    def test_any_other_piece_is_put_back(self):
        for piece in "a.-=?":
            self.number("5" + piece, 5, piece)
        self.number("5-6", 5, "-6")
        self.number("5{a}", 5, "a")
        self.number("5\\x\\skip", 5, "", book=self.book_with("x", ()))
        self.reads(("\\figures5\\q", "unknown 5"), ("\\figures5}", "groups 5"), ("\\figures5#", "mark 5"))

    def test_what_is_put_back_keeps_its_kind(self):
        self.reads(("\\set1=5?\\kind{?}{gone}?", "over ?"))
        self.reads(("\\rule\\x{\\kind{?}{gone}?}\\figures5?\\x?", "over 5??"))

    def test_what_stands_behind_the_last_figure_is_exchanged(self):
        self.number("5\\x7 ", 567, book=self.book_with("x", row("6")))
        self.number("5\\x7 ", 57, book=self.book_with("x", ()))
        self.number("5\\x7 ", 5, "a7 ", book=self.book_with("x", row("a")))
        self.number("5\\x7 ", 5, "7 ", book=self.book_with("x", row(" ")))
        self.number("5\\x", 56, book=self.book_with("x", row("6")))
        self.number("1\\iflike aa2\\else 3\\fi 4", 124, "")
        self.number("1\\figures2 3", 123)
        self.number("1\\name x\\endname 7 ", 167, book=self.book_with("x", row("6")))
        self.number("5\\text{t}7 ", 5897, texts={"t": "89"})
        self.fails("ends", "\\rule\\x#1{}\\figures5\\x")
        self.fails("ask", "\\figures5\\fi", "\\figures5\\else")

    def test_none_there_behind_the_last_figure(self):
        self.number("5", 5)
        self.number("5!a", 5)
        self.number("5\\x", 5, book=self.book_with("x", ()))
        self.reads(("\\text{t}", "over 5"), ("\\text{t}6", "over 56"), ("\\text{u}\\text{u}", "over 512512"),
                   ("\\text{v}a", "over 1a"), texts={"t": "\\figures5", "u": "\\figures5\\text{w}", "v": "\\row1\\x",
                                                    "w": "12 "},
                   book=self.with_row(self.book_with("x", ()), row("1")))
        self.fails("ends", "\\figures5\\")

    def with_row(self, book, pieces):
        book.put(("row", 1), pieces)
        return book

    def test_a_number_goes_on_in_what_waits_below(self):
        self.reads(("\\x4 a", "over 1234a"), book=self.book_with("x", [("name", "figures"), *row("123")]))
        self.reads(("\\x a", "over 123a"), book=self.book_with("x", [("name", "figures"), *row("123")]))

    def test_boxes(self):
        book = Book()
        for number, worth in ((0, 3), (3, 255), (255, -7), (7, GREAT - 1)):
            book.put(("box", number), worth)
        for text, wanted, behind in (("\\box0", 3, ""), ("\\box 0 a", 3, "a"), ("-\\box0 ", -3, ""),
                                     ("\\box255 ", -7, ""), ("-\\box255.", 7, "."), ("\\box\\box0 ", 255, ""),
                                     ("\\box\\box\\box0 ", -7, ""), ("-\\box - - \\box-\\box 9 1", -255, "1"),
                                     ("\\box1 2", 0, "2"), ("\\box7 ", GREAT - 1, ""), ("\\box--3 ", 255, ""),
                                     ("\\box\\figures3 ", 255, ""), ("--\\box\\x", -7, "")):
            more = book.twin()
            more.put(("name", "x"), ("rule", (), tuple(row("255"))))
            self.number(text, wanted, behind, book=more)

    def test_what_means_box(self):
        book = Book()
        book.put(("box", 1), 5)
        self.reads(("\\like~=\\box\\figures~1 ", "over 5"), ("\\like\\x=\\box\\like\\box=a\\figures\\x 1 ", "over 5"),
                   book=book)
        self.fails("number", "\\like\\box=a\\figures\\box1 ", "\\rule\\box{}\\figures\\box a")

    def test_boxes_beyond(self):
        for text in ("256 ", "-1 ", "999999999999 ", "256", "\\box1 ", "-\\box2 "):
            self.fails("number", "\\set1=-1 \\set2=256 \\figures\\box" + text)
        self.reads(("\\figures\\box-0 ", "over 0"), ("\\figures\\box255 ", "over 0"))

    def test_many_boxes_within_one_another(self):
        self.reads(("\\like~=\\box\\set0=0 \\figures-" + "~" * 5000 + "0 a", "over 0a"))
        self.reads(("\\like~=\\box\\set7=7 \\figures" + "~-~-" * 700 + "7 ", "number "))
        self.reads(("\\like~=\\box\\set7=7 \\figures" + "~--" * 700 + "7 ", "over 7"))

    def test_what_is_no_number(self):
        self.fails("number", "\\figures a", "\\figures-a", "\\figures.", "\\figures+1", "\\figures{1}", "\\figures}",
                   "\\figures\\q", "\\figures~", "\\figures#", "\\figures\\skip1", "\\figures\\endname",
                   "\\figures\\box a", "\\figures\\box\\skip", "\\figures-\\box=", "\\like\\x=1\\figures\\x",
                   "\\like\\x=-\\figures\\x1", "\\kind{1}{letter}\\figures 1", "\\kind{-}{letter}\\figures -1",
                   "\\figures=", "\\set a", "\\row a", "\\ifless a", "\\set1=a", "\\ifless1<a", "\\figures\\set1=1")

    def test_a_name_that_means_a_blank_is_none(self):
        book = Book()
        book.put(("name", "s"), ("piece", ("blank", " ")))
        self.fails("number", "\\figures\\s 1", book=book)
        self.reads(("\\figures1\\s 2", "over 1 2"), book=book)

    def test_where_number_shows(self):
        # It shows by the piece at which no number can be any more: what is behind isn't read.
        self.fails("number", "\\figures a\\", "\\ifless1<a\\", "\\figures-.\\", "\\figures\\box256 \\",
                   "\\figures\\box\\box256 \\fi")
        # What stands behind the last figure is read ahead of any look at the number.
        self.fails("ends", "\\figures\\box256\\", "\\row256\\")
        self.fails("ask", "\\figures\\box256\\fi")
        self.fails("ends", "\\figures", "\\figures-", "\\figures ", "\\figures\\box", "\\figures\\box-")

    def test_where_great_shows(self):
        self.fails("great", "\\figures1000000000000", "\\figures1000000000000\\", "\\figures-1000000000000 ",
                   "\\figures1000000000000\\fi", "\\figures9999999999999999", "\\figures00000000001000000000000\\",
                   "\\figures\\box1000000000000\\", "\\row1000000000000\\")
        self.fails("ends", "\\figures100000000000\\", "\\figures999999999999\\")
        self.reads(("\\figures999999999999 ", "over 999999999999"))
        self.fails("great", "\\figures1" + "0" * 5000, "\\figures" + "9" * 5000)
        self.reads(("\\figures" + "0" * 5000 + "12", "over 12"))

    def test_signs_that_turn_to_other_are_figures_only_if_they_are(self):
        self.reads(("\\kind{a}{other}\\figures1a", "over 1a"))
        self.fails("number", "\\kind{a}{other}\\figures a")

    def test_figures_are_read_by_their_kinds(self):
        self.reads(("\\kind{2}{letter}\\figures12 ", "over 12 "), ("\\kind{2}{gone}\\figures123 ", "over 13"),
                   ("\\kind{2}{blank}\\figures123", "over 13"))
        self.assertEqual(plain("\\kind{2}{letter}\\figures12")[1], [("other", "1"), ("letter", "2")])


if __name__ == "__main__":
    unittest.main()
