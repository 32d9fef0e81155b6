"""Points 15 and 3 (c): asks, their branches, and what is passed over."""

import unittest

from helping import A, BLANK, ReadingCase, row
from mouthrules.books import Book
from mouthrules.plain import plain

# Each asks what is so or isn't, whatever its branches are.
SO = ("\\iflike aa", "\\ifsame aa", "\\ifkind ab", "\\ifless1<2 ")
NOT_SO = ("\\iflike ab", "\\ifsame ab", "\\ifkind a1", "\\ifless2<1 ")


class AskedCase(ReadingCase):
    def asked(self, so, *texts, **more):
        """Whether each of these asks is so."""
        for text in texts:
            with self.subTest(text=text):
                self.assertEqual(read_end(text, **more), "y" if so else "n")


def read_end(text, **more):
    """The last sign that is told of an ask with these two branches."""
    told = plain(text + " y\\else n\\fi", **more)
    return told[1][-1][1] if told[0] == "over" else told[0]


class IfLikeTest(AskedCase):
    def test_sign_pieces(self):
        self.asked(True, "\\iflike aa", "\\iflike..", "\\iflike{{", "\\iflike}}", "\\iflike##", "\\iflike11")
        self.asked(False, "\\iflike ab", "\\iflike aA", "\\iflike a1", "\\iflike{}", "\\iflike a{", "\\iflike#1",
                   "\\iflike a\\kind", "\\iflike1\\box")

    def test_signs_of_another_kind(self):
        book = Book()
        book.put(("name", "x"), ("piece", ("other", "a")))
        self.asked(False, "\\iflike\\x a", book=book)
        self.asked(True, "\\kind{a}{other}\\iflike\\x a", book=book)

    def test_names_by_their_meanings(self):
        self.asked(True, "\\iflike\\fi\\fi", "\\iflike\\skip\\skip", "\\like\\x=a\\iflike\\x a", "\\iflike\\p\\q",
                   "\\iflike\\p~", "\\like\\x=\\skip\\iflike\\x\\skip", "\\like\\x=\\p\\iflike\\x~",
                   "\\rule\\x a#1{#1}\\rule\\y a#1{#1}\\iflike\\x\\y", "\\like~=a\\iflike~a",
                   "\\rule\\x{}\\like\\y\\x\\iflike\\x\\y", "\\name q\\endname\\iflike\\q\\skip")
        self.asked(False, "\\iflike\\fi\\else", "\\iflike\\p\\skip", "\\iflike\\p a", "\\like\\x=a\\iflike\\x b",
                   "\\rule\\x{}\\iflike\\x\\q", "\\rule\\x{a}\\iflike\\x a", "\\rule\\x{a}\\rule\\y{b}\\iflike\\x\\y",
                   "\\rule\\x#1{}\\rule\\y{}\\iflike\\x\\y", "\\rule\\x a{}\\rule\\y b{}\\iflike\\x\\y",
                   "\\iflike\\skip\\stay", "\\iflike\\a a")

    def test_they_are_raw(self):
        self.reads(("\\rule\\x{aa}\\iflike\\x b\\fi", "over "), ("\\rule\\x{}\\iflike\\x\\x y\\fi", "over y"))
        self.fails("ends", "\\iflike", "\\iflike a", "\\iflike a!b", "\\iflike a\\")

    def test_blanks_are_pieces(self):
        book = Book()
        book.put(("row", 1), [BLANK, BLANK])
        self.asked(True, "\\iflike\\s\\s", "\\behind\\iflike\\row1 ", book=book)
        self.asked(False, "\\iflike a ")


class IfSameTest(AskedCase):
    def test_signs(self):
        self.asked(True, "\\ifsame aa", "\\ifsame11", "\\kind{a}{other}\\rule\\x{a}\\kind{a}{letter}\\ifsame\\x a")
        self.asked(False, "\\ifsame ab", "\\ifsame a1", "\\ifsame{}", "\\ifsame a ")

    def test_they_are_exchanged(self):
        self.asked(True, "\\rule\\x{a}\\ifsame\\x a", "\\rule\\x{a}\\ifsame a\\x", "\\rule\\x{aa}\\ifsame\\x",
                   "\\rule\\x{\\y}\\rule\\y{a}\\ifsame\\x\\y", "\\ifsame\\figures7 7", "\\rule\\x{}\\ifsame\\x a\\x a",
                   "\\ifsame\\iflike xxa\\fi a")
        self.asked(False, "\\rule\\x{ab}\\ifsame\\x")
        self.fails("ends", "\\ifsame", "\\ifsame a", "\\rule\\x{}\\ifsame a\\x")

    def test_names_that_mean_a_sign_piece(self):
        self.asked(True, "\\like\\x=a\\ifsame\\x a", "\\like~=a\\ifsame~a", "\\like\\x={\\ifsame\\x{",
                   "\\like\\x=a\\like~=a\\ifsame\\x~")
        self.asked(False, "\\like\\x=a\\ifsame\\x b", "\\like\\x=a\\ifsame\\x\\q", "\\ifsame\\a a", "\\ifsame~b")

    def test_without_a_sign(self):
        self.asked(True, "\\ifsame\\p\\q", "\\ifsame\\skip\\stay", "\\ifsame~\\q", "\\ifsame~~", "\\ifsame\\set\\a")
        self.asked(False, "\\ifsame\\a a", "\\ifsame~\\x", book=self.book_x())

    def book_x(self):
        book = Book()
        book.put(("name", "x"), ("piece", ("other", "~")))
        return book


class IfKindTest(AskedCase):
    def test_kinds(self):
        self.asked(True, "\\ifkind ab", "\\ifkind1.", "\\ifkind{{", "\\ifkind##", "\\kind{?}{letter}\\ifkind a?")
        self.asked(False, "\\ifkind a1", "\\ifkind{}", "\\ifkind a ", "\\ifkind#1", "\\kind{a}{other}\\ifkind ab")

    def test_names(self):
        self.asked(True, "\\ifkind\\p\\q", "\\ifkind\\skip~", "\\ifkind~~", "\\like\\x=a\\ifkind\\x b",
                   "\\like~=1\\ifkind~.", "\\like\\x={\\ifkind\\x{", "\\ifkind\\stay\\box")
        self.asked(False, "\\ifkind\\a a", "\\like\\x=a\\ifkind\\x1", "\\like\\x=a\\ifkind\\x\\q", "\\ifkind~a")

    def test_they_are_exchanged(self):
        self.asked(True, "\\rule\\x{a}\\ifkind\\x b", "\\rule\\x{ab}\\ifkind\\x", "\\ifkind\\figures1 2")
        self.fails("ends", "\\ifkind", "\\ifkind a")


class IfLessTest(AskedCase):
    def test_numbers(self):
        for one in (-12, -1, 0, 1, 7, 999999999999):
            for other in (-12, -1, 0, 1, 7, 999999999999):
                self.asked(one < other, f"\\ifless{one}<{other} ")
                self.asked(one == other, f"\\ifless{one}={other} ")
                self.asked(one > other, f"\\ifless{one}>{other} ")

    def test_blanks_ahead_of_the_sign(self):
        self.asked(True, "\\ifless1 <2 ", "\\ifless1  <  2 ", "\\ifless1\\x\\x <2 ", "\\ifless1\\x\\x\\z2 ",
                   book=self.book())
        self.asked(False, "\\ifless3\\x\\x<\\x\\x2 ", book=self.book())

    def book(self):
        book = Book()
        book.put(("name", "x"), ("rule", (), (BLANK, BLANK)))
        book.put(("name", "z"), ("rule", (), (BLANK, ("other", "<"))))
        book.put(("name", "w"), ("piece", ("other", "<")))
        return book

    def test_other_signs(self):
        self.fails("number", "\\ifless1a2", "\\ifless1.2", "\\ifless1\\w2", "\\ifless1 2", "\\ifless1{2", "\\ifless1\\q",
                   "\\kind{<}{letter}\\ifless1<2", "\\ifless1!<2\n\\fi\\fi", book=self.book())
        self.fails("ends", "\\ifless", "\\ifless1", "\\ifless1 ", "\\ifless1<", "\\ifless1 <-")

    def test_the_branch_begins_behind_all_that_the_second_number_read(self):
        self.reads(
            ("\\ifless1<2 a\\fi", "over a"),
            ("\\ifless1<2  a\\fi", "over a"),
            ("\\ifless1<2\\x a\\fi", "over  a"),
            ("\\ifless1<2a\\fi", "over a"),
            ("\\ifless1<2\\y\\fi", "over c"),
            ("\\ifless3<2\\y\\else d\\fi", "over d"),
            # The rule is exchanged, though its branch isn't read; so the else that it hides is met.
            ("\\ifless3<2\\v d\\fi", "over d"),
            ("\\ifless1<2\\v d\\fi", "over b"),
            book=self.branches(),
        )
        self.keeps("\\ifless3<2\\name q\\endname\\fi", ("name", "q"), ("deed", "skip"))
        self.fails("ask", "\\ifless3<2\\iflike ab\\fi\\fi\\fi", "\\ifless3<2\\iflike ab\\else\\else\\fi\\fi")

    def branches(self):
        book = self.book()
        book.put(("name", "y"), ("rule", (), tuple(row("c"))))
        book.put(("name", "v"), ("rule", (), (("letter", "b"), ("name", "else"))))
        return book

    def test_at_the_end_of_the_text(self):
        self.fails("ask", "\\ifless1<2", "\\ifless1<2 ")
        self.fails("ends", "\\ifless2<1", "\\ifless2<1 ")


class BranchesTest(ReadingCase):
    def test_both_branches(self):
        for ask in SO:
            self.reads((ask + "y\\fi z", "over yz"), (ask + "y\\else n\\fi z", "over yz"), (ask + "\\else\\fi", "over "),
                       (ask + "\\fi", "over "), (ask + "\\else n\\fi z", "over z"))
        for ask in NOT_SO:
            self.reads((ask + "y\\fi z", "over z"), (ask + "y\\else n\\fi z", "over nz"), (ask + "\\else\\fi", "over "),
                       (ask + "\\fi", "over "), (ask + "\\else n\\fi z", "over nz"))

    def test_asks_within_asks(self):
        for outer, first in [(ask, True) for ask in SO] + [(ask, False) for ask in NOT_SO]:
            for inner, second in [(ask, True) for ask in SO] + [(ask, False) for ask in NOT_SO]:
                within = inner + "a\\else b\\fi "
                wanted = "a" if second else "b"
                self.reads((outer + within + "\\else c\\fi d", "over " + (wanted if first else "c") + "d"),
                           (outer + "c\\else " + within + "\\fi d", "over " + ("c" if first else wanted) + "d"),
                           (outer + within + "\\fi d", "over " + (wanted if first else "") + "d"))

    def test_a_branch_goes_over_what_waits(self):
        self.reads(("\\rule\\x{\\iflike ab}\\x p\\else q\\fi", "over q"),
                   ("\\rule\\x{\\iflike abp\\else}\\x q\\fi r", "over qr"),
                   ("\\rule\\x{\\iflike aap\\else}\\x q\\fi r", "over pr"),
                   ("\\text{a}\\text{b}x\\fi y", "over y"), ("\\text{c}x\\fi\\fi y", "over py"),
                   texts={"a": "\\iflike ab p", "b": "q", "c": "\\iflike aap\\else q\\iflike"})

    def test_without_its_end(self):
        for ask in SO:
            self.reads((ask + "y", "ask y"), (ask + "y\\else n", "ends y"), (ask + "{y}", "ask y"), (ask + "{y", "ask y"))
        for ask in NOT_SO:
            self.reads((ask + "y", "ends "), (ask + "y\\else n", "ask n"), (ask + "\\fi\\fi", "ask "),
                       (ask + "\\", "ends "))

    def test_else_and_fi_without_an_ask(self):
        self.fails("ask", "\\else", "\\fi", "\\iflike aa\\fi\\fi", "\\iflike aa\\fi\\else", "\\iflike ab\\else\\fi\\else")

    def test_an_else_too_many(self):
        self.fails("ask", "\\iflike ab\\else\\else\\fi", "\\iflike aa\\else\\else\\fi", "\\iflike aa x\\else y\\else",
                   "\\iflike ab x\\else y\\else z\\fi")
        self.reads(("\\iflike aa\\else\\iflike ab\\else\\else\\fi\\fi z", "over z"))

    def test_what_is_passed_is_not_looked_into(self):
        for passed in ("{", "}", "#", "~", "\\q", "\\set1=5 ", "\\rule\\x{", "\\name", "\\text{q}", "\\all", "\\endname",
                       "\\kind{a}{gone}", "\\box", "}}}", "\\behind", "\\rule\\p", "\\name\\q{"):
            self.reads(("\\iflike ab" + passed + "\\else a\\fi b", "over ab"),
                       ("\\iflike aaa\\else " + passed + "\\fi b", "over ab"))

    def test_nothing_is_done_in_it(self):
        told = plain("\\iflike ab\\set1=5 \\rule\\x{}\\kind{a}{gone}\\keep1={a}\\name q\\endname{\\later a}\\fi")
        self.assertEqual(told[:1] + told[3:4], ("over", 1))
        self.assertEqual(told[4], Book())

    def test_passed_asks_are_those_by_meaning_then(self):
        self.reads(
            # A name that means an ask by then.
            ("\\like\\x=\\iflike\\iflike ab\\x\\else a\\fi b\\else c\\fi", "over c"),
            ("\\like~=\\ifless\\iflike ab~\\fi b\\else c\\fi", "over c"),
            ("\\rule\\x{\\iflike}\\iflike ab\\x a\\else c\\fi", "over c"),
            # A name that means it no more.
            ("\\like\\ifkind=a\\iflike ab\\ifkind b\\else c\\fi", "over c"),
            ("\\rule\\iflike{}\\ifsame ab\\iflike b\\else c\\fi", "over c"),
            # So too for else and fi.
            ("\\like\\x=\\else\\like\\y=\\fi\\iflike ab p\\x q\\y r", "over qr"),
            ("\\like\\x=\\fi\\rule\\fi{}\\iflike ab p\\fi q\\x r", "over r"),
            ("\\rule\\x{\\fi}\\iflike ab p\\x q\\fi r", "over r"),
            ("\\like~=\\else\\kind{?}{active}\\like?=\\fi\\iflike ab p~q?r", "over qr"),
        )

    def test_asks_begun_while_it_was_asked(self):
        self.reads(
            # The fi of the one within stands in the branch of the other.
            ("\\ifless\\iflike aa1<2 y\\fi z\\else w\\fi v", "over yzv"),
            ("\\ifless\\iflike aa3<2 y\\fi z\\else w\\fi v", "over wv"),
            ("\\ifless\\iflike aa3<2 y\\else u\\fi z\\else w\\fi v", "over wv"),
            ("\\ifless\\iflike aa3<2 y\\fi z\\fi v", "over v"),
            ("\\ifless\\iflike aa\\iflike bb3<2 y\\fi z\\fi x\\else w\\fi v", "over wv"),
            ("\\ifless\\iflike ab0\\else3<2 y\\fi z\\else w\\fi v", "over wv"),
            ("\\ifsame\\iflike aaab y\\fi z\\else w\\fi v", "over wv"),
            ("\\ifsame\\iflike aabb y\\fi z\\else w\\fi v", "over  yzv"),
        )
        self.fails("ask", "\\ifless\\iflike aa1<2 y\\else\\else", "\\ifless\\iflike ab0\\else 1<2 y\\else\\fi\\fi")
        self.fails("ends", "\\ifless\\iflike aa3<2 y\\fi z", "\\ifless\\iflike aa1<2 y\\else z")

    def test_asks_within_a_number_end_there(self):
        self.reads(("\\ifless\\iflike aa1\\else2\\fi<2 y\\else n\\fi", "over y"),
                   ("\\ifless\\iflike ab1\\else2\\fi<2 y\\else n\\fi", "over n"),
                   ("\\ifless\\ifless1<2 1\\else2\\fi<2 y\\else n\\fi", "over y"))

    def test_rows_are_passed_piece_by_piece(self):
        book = Book()
        book.put(("row", 1), [A, ("name", "iflike"), A, ("name", "fi"), ("name", "else"), A, ("name", "fi"), A])
        self.reads(("\\rule\\x{\\iflike ab}\\behind\\x\\row1 c", "over aac"), book=book)

    def test_an_ask_is_one_round_with_all_that_is_passed(self):
        self.assertEqual(plain("\\iflike ab" + "x" * 5000 + "\\fi")[3], 1)
        self.assertEqual(plain("\\iflike aa\\else" + "{" * 5000 + "\\fi")[3], 2)

    def test_many_asks_deep(self):
        many = 300
        self.reads(("\\iflike aa" * many + "x" + "\\fi" * many, "over x"),
                   ("\\iflike ab" * many + "x" + "\\fi" * many, "over "),
                   ("\\iflike ab" + "\\iflike" * many + " x" + "\\else\\fi" * many + "\\else y\\fi", "over y"))


if __name__ == "__main__":
    unittest.main()
