"""Point 13: what waits, rules, behind, name, figures, row and text."""

import unittest

from helping import A, B, BLANK, ReadingCase, row
from mouthrules.books import Book
from mouthrules.plain import plain

TAKES = "\\rule\\x#1{[#1]}"
UP_TO = "\\rule\\x#1.{[#1]}"


class WaitingTest(ReadingCase):
    def test_the_last_one_put_is_read_first(self):
        self.reads(
            ("a", "over a"),
            ("\\rule\\x{ab}\\x c", "over abc"),
            ("\\rule\\x{ab}\\rule\\y{p\\x q}\\y c", "over pabqc"),
            ("\\rule\\x{}\\x c\\x", "over c"),
            ("\\rule\\x{\\y\\y}\\rule\\y{\\z.\\z}\\rule\\z{1}\\x", "over 1.11.1"),
        )
        self.reads(
            ("p\\text{a}q", "over p(<m>)q"),
            ("\\rule\\x{1\\text{b}2}\\x\\x", "over 1m21m2"),
            ("\\text{b}\\text{b}", "over mm"),
            ("\\text{c}\\x", "over 7"),
            texts={"a": "(\\text{d})", "b": "m", "c": "\\rule\\x{7}", "d": "<\\text{b}>"},
        )

    def test_rules_take_on_in_what_waits_below(self):
        self.reads(
            ("\\rule\\x#1#2{(#2#1)}\\rule\\y{\\x a}\\y b", "over (ba)"),
            (UP_TO + "\\rule\\y{\\x ab}\\y cd.e", "over [abcd]e"),
            (UP_TO + "\\rule\\y{\\x}\\rule\\z{a\\y b}\\z c.", "over a[bc]"),
            (TAKES + "\\rule\\y{\\x}\\y{ab}c", "over [ab]c"),
        )
        self.reads(
            (UP_TO + "\\text{a}r.s", "over [pqr]s"),
            (UP_TO + "\\text{b}2.3", "over [12]3"),
            (TAKES + "\\text{c}b", "over [b]"),
            texts={"a": "\\x pq", "b": "\\x 1", "c": "\\x  "},
        )

    def test_a_piece_of_a_group_may_stand_below(self):
        book = Book()
        book.put(("row", 1), row("{ab"))
        book.put(("name", "x"), ("rule", (("hand", 1),), (("other", "["), ("hand", 1), ("other", "]"))))
        book.put(("name", "y"), ("rule", (), (("name", "x"), ("name", "z"))))
        self.reads(("\\behind\\x\\row1 c}d", "over [abc]d"), book=book)

    def test_kinds_are_those_by_then(self):
        # The piece behind the taken one isn't read yet; what is taken keeps its kind.
        self.reads(
            ("\\kind{?}{letter}\\name a?\\endname ?", "over ?"),
            ("\\rule\\x#1{\\kind{?}{gone}#1}\\x??a?", "over ?a"),
            ("\\rule\\x#1{\\kind{?}{gone}#1}\\x{??}?a?", "over ??a"),
        )


class RuleTest(ReadingCase):
    def test_marks_take_and_the_body_is_put(self):
        self.reads(
            ("\\rule\\x#1#2{#2#1#2}\\x ab", "over bab"),
            ("\\rule\\x#1#2{#2#1#2}\\x{ab} {c}d", "over cabcd"),
            ("\\rule\\x(#1,#2){#2-#1}\\x(a,b)", "over b-a"),
            ("\\rule\\x(#1,#2){#2-#1}\\x({a},{}{b})c", "over b-ac"),
            (TAKES + "\\x{\\x{a}}", "over [[a]]"),
            ("\\rule~#1{<#1>}~a~{bc}", "over <a><bc>"),
            ("\\rule\\x a{b}\\x a\\x ac", "over bbc"),
        )

    def test_names_that_are_handed_are_not_exchanged_ahead(self):
        self.reads((TAKES + "\\rule\\y{ab}\\x\\y", "over [ab]"), (TAKES + "\\x\\x a", "over [[]]a"))

    def test_faults_of_taking(self):
        self.fails("use", "\\rule\\x a{}\\x b", "\\rule\\x a{}\\x}")
        self.fails("ends", TAKES + "\\x", TAKES + "\\x{a", UP_TO + "\\x ab", "\\rule\\x a{}\\x")
        self.fails("groups", TAKES + "{\\x}", UP_TO + "{\\x a}")

    def test_hands_of_names_and_asks(self):
        self.reads((TAKES + "\\x\\fi", "ask ["), (TAKES + "\\iflike aa\\x\\fi", "over []"))


class BehindTest(ReadingCase):
    def test_the_second_one_is_exchanged_first(self):
        lead = TAKES + "\\rule\\y{ab}"
        self.reads(
            (lead + "\\x\\y", "over [ab]"),
            (lead + "\\behind\\x\\y", "over [a]b"),
            (lead + "\\rule\\z{\\y}\\behind\\x\\z", "over [ab]"),
            (lead + "\\rule\\z{\\y}\\behind\\x\\z\\z", "over [ab]ab"),
            (lead + "\\behind p\\y", "over pab"),
            (lead + "\\behind\\x{c}", "over [c]"),
        )

    def test_what_cannot_be_exchanged_is_put(self):
        self.reads(("\\behind ab", "over ab"), ("\\behind{a}", "over a"), ("\\behind a\\skip b", "over ab"),
                   ("\\behind\\skip\\set1=5 \\figures\\box1 ", "over 5"), (TAKES + "\\behind\\x\\q", "unknown ["))

    def test_it_counts_as_one_round(self):
        self.assertEqual(plain("\\behind ab")[3], 3)

    def test_several(self):
        lead = "\\rule\\x#1{[#1]}\\rule\\y#1{<#1>}\\rule\\z{pq}"
        self.reads(
            (lead + "\\behind\\behind\\behind\\x\\behind\\y\\z", "over [<]p>q"),
            (lead + "\\behind a\\behind b\\z", "over abpq"),
        )

    def test_asks_that_are_exchanged_so(self):
        self.reads(
            ("\\behind a\\iflike bb c\\else d\\fi", "over a c"),
            ("\\behind a\\iflike bc c\\else d\\fi", "over ad"),
            ("\\iflike aa\\behind b\\fi c", "over bc"),
            ("\\iflike aa\\behind b\\else c\\fi d", "over bd"),
            # While it is asked the fi can't be exchanged.
            ("\\ifsame\\behind a\\fi b\\else c\\fi", "over c"),
            ("\\behind a\\text{t}", "over axy"),
            ("\\behind-\\figures12 ", "over -12"),
            texts={"t": "xy"},
        )

    def test_faults(self):
        self.fails("ends", "\\behind", "\\behind a", "\\behind a!", "\\behind a\\")
        self.fails("ask", "\\behind a\\fi", "\\behind a\\else")


class NameTest(ReadingCase):
    def test_the_name_is_put(self):
        self.reads(
            ("\\rule\\ab{Q}\\name ab\\endname c", "over Qc"),
            ("\\rule\\ab{Q}\\name a\\endname", "over "),
            ("\\rule\\x{b}\\rule\\ab{Q}\\name a\\x\\endname", "over Q"),
            ("\\rule\\x{b\\endname}\\rule\\ab{Q}\\name a\\x c", "over Qc"),
            ("\\rule\\ab{Q}\\name \\iflike xxa\\else b\\fi b\\endname", "over Q"),
            ("\\rule\\x#1{<#1>}\\behind\\x\\name ab\\endname", "over <>"),
            ("\\rule\\ab{Q}\\like~=\\endname\\name ab~", "over Q"),
            ("\\rule\\ab{Q}\\like\\y=\\endname\\name ab\\y", "over Q"),
            ("\\name figures\\endname-0012 ", "over -12"),
        )

    def test_signs_of_letters_others_and_blanks(self):
        for name in ("a", "a ", "a b", "1", "a1.", "?", "a-b =", "aB", "(", "a" * 30, "1 " * 15, "q" * 29 + " "):
            with self.subTest(name=name):
                told = plain("\\name " + name + "\\endname")
                self.assertEqual((told[0], told[3]), ("over", 2))
                self.assertEqual(told[4].worth(("name", name)), ("deed", "skip"))

    def test_blanks_are_one_sign(self):
        self.keeps("\\name a\t\n  b\\endname", ("name", "a b"), ("deed", "skip"))

    def test_figures_in_names(self):
        self.keeps("\\set3=12 \\name a\\figures\\box3 \\endname", ("name", "a12"), ("deed", "skip"))
        self.keeps("\\keep7={ab c}\\name\\row7 \\endname", ("name", "ab c"), ("deed", "skip"))

    def test_one_of_one_letter_is_that_name(self):
        self.reads(("\\rule\\x{Q}\\name x\\endname", "over Q"), ("\\rule\\?{Q}\\name?\\endname", "over Q"))

    def test_what_means_something_keeps_it(self):
        self.keeps("\\rule\\ab{Q}\\name ab\\endname", ("name", "ab"),
                   ("rule", (), (("letter", "Q"),)))
        self.keeps("\\like\\ab=c\\name ab\\endname", ("name", "ab"), ("piece", ("letter", "c")))

    def test_skip_is_given_back_by_groups(self):
        self.keeps("{\\name q\\endname}", ("name", "q"), None)
        self.keeps("\\open\\name q\\endname\\shut", ("name", "q"), None)
        self.keeps("{}\\name q\\endname{}", ("name", "q"), ("deed", "skip"))

    def test_one_that_is_not_done_gets_it_too(self):
        self.keeps("\\rule\\x#1{}\\behind\\x\\name q\\endname", ("name", "q"), ("deed", "skip"))

    def test_too_many_signs_show_at_once(self):
        self.fails("ends", "\\name " + "a" * 30, "\\name", "\\name a", "\\name a\\")
        self.fails("name", "\\name " + "a" * 31, "\\name " + "a" * 31 + "\\endname", "\\name " + "a " * 16 + "\\",
                   "\\name " + "a" * 31 + "\\fi")
        self.fails("ask", "\\name " + "a" * 30 + "\\fi")

    def test_none_at_all(self):
        self.fails("name", "\\name\\endname", "\\rule\\x{}\\name\\x\\endname")

    def test_other_pieces_show_at_once(self):
        for piece in ("{", "}", "#", "\\q ", "~", "\\skip ", "\\stay ", "\\box ", "\\y ", "\\rule "):
            self.fails("name", "\\like\\y=a\\name a" + piece, "\\like\\y=a\\name " + piece + "\\endname")


class FiguresTest(ReadingCase):
    def test_figures_are_put(self):
        self.reads(
            ("\\figures12 a", "over 12a"),
            ("\\figures-12 a", "over -12a"),
            ("\\figures--12a", "over 12a"),
            ("\\figures007 ", "over 7"),
            ("\\figures-0 ", "over 0"),
            ("\\set1=-5 \\figures\\box1 x", "over -5x"),
            ("\\figures\\figures\\figures-3", "over -3"),
            ("\\figures999999999999 ", "over 999999999999"),
        )

    def test_they_are_other_pieces(self):
        told = plain("\\set2=-11 \\kind{1}{letter}\\kind{-}{gone}\\figures\\box2 ")
        self.assertEqual(told[1], [("other", "-"), ("other", "1"), ("other", "1")])

    def test_it_is_one_round(self):
        self.assertEqual(plain("\\figures12 ")[3], 3)

    def test_faults(self):
        self.fails("number", "\\figures a", "\\figures{1}")
        self.fails("ends", "\\figures", "\\figures -")
        self.fails("great", "\\figures1000000000000 ")


class RowTest(ReadingCase):
    def test_a_row_box_is_put(self):
        self.reads(
            ("\\keep1={a\\x}\\rule\\x{b}\\row1 c", "over abc"),
            ("\\row7 c", "over c"),
            ("\\keep255={a}\\row255 \\row255", "over aa"),
            ("\\keep1={a}\\set2=1 \\row\\box2 ", "over a"),
            ("\\rule\\x#1{[#1]}\\keep1={{ab}c}\\behind\\x\\row1 ", "over [ab]c"),
            ("\\keep0={a}\\row-0 ", "over a"),
        )

    def test_numbers_beyond(self):
        self.fails("number", "\\row256 ", "\\row-1 ", "\\row999999999999 ", "\\row a", "\\row256")
        self.fails("ends", "\\row")
        self.fails("great", "\\row1000000000000")

    def test_a_row_is_put_as_often_as_is_asked(self):
        book = Book()
        book.put(("row", 0), [A, B])
        self.reads(("\\row0 \\row0 c\\row0", "over ababcab"), book=book)
        self.assertEqual(book.worth(("row", 0)), [A, B])


class TextTest(ReadingCase):
    TEXTS = {"a": "x", "abcdefgh": "y", "b": "p\\text{a}q", "empty": "", "e": "m\\"}

    def test_a_text_is_put(self):
        self.reads(
            ("1\\text{a}2", "over 1x2"),
            ("1\\text  {abcdefgh}2", "over 1y2"),
            ("\\like~=\\text~ {b}", "over pxq"),
            ("1\\text{empty}2", "over 12"),
            ("\\text{a}\\text{a}", "over xx"),
            ("\\rule\\x{{a}}\\text\\x", "text "),
            ("\\rule\\x{{a}}\\behind\\text\\x", "over x"),
            ("\\rule\\x#1{<#1>}\\behind\\x\\text{b}", "over <p>xq"),
            texts=self.TEXTS,
        )

    def test_texts_that_are_not_there(self):
        self.fails("text", "\\text{c}", "\\text{}", "\\text{A}", "\\text{ab}", "\\text{a }", "\\text{ a}", "\\text{1}",
                   "\\text{{a}}", "\\text{\\a}", "\\text{~}", "\\text a", "\\text}", "\\text\\x", "\\text{#}",
                   "\\text{abcdefghi}", texts=self.TEXTS)
        self.fails("text", "\\text{a}")

    def test_letters_alone_spell_a_name(self):
        self.fails("text", "\\kind{a}{other}\\text{a}", "\\like\\y=a\\text{\\y}", texts=self.TEXTS)
        self.reads(("\\kind{?}{letter}\\text{?}", "text "), texts=self.TEXTS)

    def test_ends(self):
        self.fails("ends", "\\text", "\\text ", "\\text{a", "\\text{a\\", "\\text{e}", texts=self.TEXTS)

    def test_blanks_within_what_waits_are_passed_one_by_one(self):
        book = Book()
        book.put(("row", 1), [BLANK, BLANK])
        self.reads(("\\behind\\text\\row1 {a}", "over x"), book=book, texts=self.TEXTS)

    def test_it_is_read_by_the_kinds_of_then(self):
        self.reads(("\\text{b}\\kind{q}{gone}\\text{b}q", "over pxqpx"), texts=self.TEXTS)


class ElseAndFiTest(ReadingCase):
    def test_they_are_not_exchanged_while_the_last_ask_is_asked(self):
        self.reads(
            ("\\ifless1<2\\fi a", "over a"),
            ("\\ifless1<2\\else b\\fi a", "over a"),
            ("\\ifless1>2\\else b\\fi a", "over ba"),
            ("\\ifsame\\fi\\else a\\else b\\fi", "over a"),
            ("\\ifkind\\fi\\fi a\\fi", "over a"),
            ("\\ifsame\\fi a b\\else c\\fi", "over c"),
        )
        self.fails("number", "\\ifless\\fi", "\\ifless1\\fi", "\\ifless1<\\else")

    def test_those_of_asks_within_are(self):
        self.reads(
            ("\\ifless\\iflike aa1\\else2\\fi<2 a\\fi", "over a"),
            ("\\ifless\\iflike ab1\\else2\\fi<2 a\\else b\\fi", "over b"),
            ("\\ifless1<\\iflike aa2\\fi a\\fi", "over a"),
            ("\\ifsame\\iflike aab\\else c\\fi by\\fi", "over y"),
            ("\\ifsame\\iflike aab\\fi cy\\else n\\fi", "over n"),
        )
        self.fails("name", "\\ifless1<\\name\\fi\\endname\\fi")


if __name__ == "__main__":
    unittest.main()
