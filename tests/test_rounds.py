"""Point 17: the bounds of a round, the end of a text, and what a fault leaves."""

import unittest

from helping import A, ReadingCase, named, row
from mouthrules.books import Book
from mouthrules.plain import plain


def book_with_rows(*rows):
    """A book with these row boxes, from 0 on, and a name x that is exchanged for nothing."""
    book = Book()
    book.put(("name", "x"), ("rule", (), ()))
    for number, pieces in enumerate(rows):
        book.put(("row", number), pieces)
    return book


def chain(many):
    """Texts of which each puts the next one, as many as that, and the name of the first one."""
    names = [chr(97 + number // 26) + chr(97 + number % 26) for number in range(many)]
    texts = {name: "\\text{" + following + "}" for name, following in zip(names, names[1:])}
    return {**texts, names[-1]: "a"}, names[0]


class ExchangesTest(ReadingCase):
    def bounded(self, made, most):
        """What is made of most exchanges is over, of one more it is long."""
        book = book_with_rows()
        self.assertEqual(plain(made(most), book=book)[0], "over")
        self.assertEqual(plain(made(most + 1), book=book)[0], "long")

    def test_all_that_a_round_asks_for_counts(self):
        self.bounded(lambda many: "\\set1=" + "\\x" * many + " 5", 300)
        self.bounded(lambda many: "\\figures" + "\\x" * many + " 5", 299)
        self.bounded(lambda many: "\\figures5" + "\\x" * many, 299)
        self.bounded(lambda many: "\\like~=\\figures" + "~" * many + "5", 300)
        self.bounded(lambda many: "\\like~=\\behind" + "~a" * many + "b", 300)
        self.bounded(lambda many: "\\name " + "\\x" * many + " a\\endname", 299)
        self.bounded(lambda many: "\\ifsame a" + "\\x" * many + " a\\fi", 299)
        self.bounded(lambda many: "\\set1=" + "\\iflike aa\\fi" * many + "5 ", 150)
        self.bounded(lambda many: "\\all" + "\\x" * many + "\\set1=5 ", 300)
        self.bounded(lambda many: "\\keep" + "\\x" * many + " 1={a}", 300)
        self.bounded(lambda many: "\\row1" + "\\x" * many, 299)

    def test_exchanges_of_a_body_gone_through_count_with_the_rounds(self):
        self.bounded(lambda many: "\\through\\y{" + "\\x" * many + "}", 300)
        self.bounded(lambda many: "\\all" + "\\x" * 100 + "\\through\\y{" + "\\x" * many + "}", 200)
        self.bounded(lambda many: "\\all" + "\\x" * many + "\\through\\y{" + "\\x" * 100 + "}", 200)

    def test_each_round_counts_for_itself(self):
        self.reads(("\\x" * 1000 + " a", "over a"), ("\\set1=" + "\\x" * 200 + " 5 \\set1=" + "\\x" * 200 + " 5", "over "),
                   book=book_with_rows())

    def test_what_is_passed_or_raw_does_not_count(self):
        book = book_with_rows()
        self.reads(("\\iflike ab" + "\\x" * 1000 + "\\fi", "over "), ("\\rule\\y{" + "\\x" * 1000 + "}", "over "),
                   ("\\keep1={" + "\\x" * 1000 + "}", "over "), book=book)

    def test_the_last_one_shows_at_once(self):
        self.fails("long", "\\like~=\\figures" + "~" * 301, "\\like~=\\behind" + "~a" * 301, book=book_with_rows())
        self.fails("ends", "\\like~=\\figures" + "~" * 300, "\\like~=\\behind" + "~a" * 299 + "~", book=book_with_rows())


class PiecesTest(ReadingCase):
    def bounded(self, made, most, **more):
        self.assertEqual(plain(made(most), most=5000, **more)[0], "over")
        self.assertEqual(plain(made(most + 1), most=5000, **more)[0], "long")

    def test_a_row_that_is_put(self):
        for many, word in ((2000, "over"), (2001, "long")):
            self.assertEqual(plain("\\row0 ", book=book_with_rows([A] * many), most=5000)[0], word)

    def test_all_rows_that_wait_count(self):
        for many, word in ((1200, "over"), (1201, "long")):
            told = plain("\\row0 ", book=book_with_rows(named("\\row", "1", " ") + [A] * 800, [A] * many), most=5000)
            self.assertEqual(told[0], word)
            lead = named("\\text", "{t}")
            told = plain("\\row0 ", book=book_with_rows(lead + [A] * 800, [A] * many), texts={"t": "a\\row1 b"}, most=5000)
            self.assertEqual(told[0], word)

    def test_signs_of_texts_do_not_count(self):
        book = book_with_rows([A] * 2000)
        self.assertEqual(plain("\\row0 " + "a" * 5000, book=book, most=2005)[0], "more")
        self.assertEqual(plain("\\text{t}", book=book, texts={"t": "\\row0 " + "a" * 2500}, most=5000)[0], "over")

    def test_a_filled_body(self):
        self.bounded(lambda many: "\\rule\\y#1{#1#1}\\y{" + "a" * many + "}", 1000)
        self.bounded(lambda many: "\\rule\\y#1{#1" + "a" * 1000 + "}\\y{" + "a" * many + "}", 1000)
        self.bounded(lambda many: "\\rule\\y{" + "a" * many + "}\\y", 2000)
        self.fails("long", "\\rule\\y#1{" + "#1" * 1400 + "}\\y{" + "a" * 3000 + "}")

    def test_pieces_left_for_later(self):
        self.bounded(lambda many: "\\like~\\later{" + "~a" * many + "}", 2000)
        self.bounded(lambda many: "\\like~\\later\\open" + "~a" * many + "\\shut", 2000)

    def test_a_made_name_and_pieces_put_by_behind(self):
        for many, word in ((1999, "over"), (2000, "long")):
            book = book_with_rows([A, *named("\\row", "1", " ")], [A] * many)
            self.assertEqual(plain("\\behind\\behind\\row0 ", book=book, most=5000)[0], word)

    def test_a_row_that_grows(self):
        told = plain("\\rule\\y{\\y\\y}\\y", most=5000)
        self.assertEqual((told[0], told[3]), ("long", 2000))
        self.assertEqual(plain("\\rule\\y{\\y\\y}\\y")[0], "more")
        told = plain("\\rule\\y{\\y}\\y", most=5000)
        self.assertEqual((told[0], told[3]), ("more", 5000))


class TextsTest(ReadingCase):
    def test_texts_that_wait(self):
        for many, word in ((29, "over"), (30, "long"), (40, "long")):
            texts, first = chain(many)
            told = plain("\\text{" + first + "}", texts=texts)
            self.assertEqual(told[0], word)

    def test_one_that_is_over_waits_till_below_it_is_wanted(self):
        told = plain("\\text{a}", texts={"a": "\\text{a}"})
        self.assertEqual((told[0], told[2], told[3]), ("long", (8,) * 29 + (0,), 29))
        self.reads(("\\text{a}b" * 100, "over " + "b" * 100), texts={"a": ""})
        self.reads(("\\text{a}" * 100, "over "), texts={"a": ""})
        told = plain("\\text{a}", texts={"a": "\\skip\\text{a}!"})
        self.assertEqual((told[0], told[3]), ("long", 58))

    def test_what_comes_ahead_takes_them_off(self):
        self.reads(("\\text{a}" + "\\x" * 50, "over " + "b" * 50), texts={"a": "\\rule\\x{\\text{c}}", "c": "b"})


class EndTest(ReadingCase):
    def test_what_is_open(self):
        self.reads(("\\iflike aa", "ask "), ("{", "groups "), ("{\\iflike aa", "ask "), ("\\iflike aa{", "ask "),
                   ("\\open\\iflike ab\\else", "ask "), ("", "over "), ("{\\iflike aa}\\fi", "over "),
                   ("\\iflike aa{\\fi}", "over "), ("\\iflike aa\\fi{", "groups "))


class FaultTest(ReadingCase):
    """At a fault all is as ahead of the round."""

    def test_the_row_the_places_the_rounds_and_the_book(self):
        book = Book()
        book.put(("box", 1), 5)
        self.assertEqual(plain("\\set1=5 ab\\q c"), ("unknown", row("ab"), (10,), 3, book))
        self.assertEqual(plain("ab\\set1=\\name q\\endname"), ("number", row("ab"), (2,), 2, Book()))
        self.assertEqual(plain("a!r\n\\set7=3\\"), ("ends", [A], (1,), 1, Book()))
        self.assertEqual(plain("\\iflike ab\\name q"), ("ends", [], (0,), 0, Book()))
        self.assertEqual(plain(" \\all\\set256=1"), ("number", row(" "), (1,), 1, Book()))

    def test_what_a_group_would_have_given_back(self):
        told = plain("\\like~\\later{\\set1=5 " + "~a" * 2001 + "}", most=5000)
        self.assertEqual((told[0], told[2], told[3]), ("long", (13 + 8 + 4002,), 2004))
        self.assertEqual((told[4].depth(), told[4].worth(("box", 1))), (1, 5))
        self.assertEqual(told[4].end("signs"), [A] * 2001)

    def test_rows_and_texts_that_were_gone_on_in(self):
        texts = {"t": "a\\y!", "u": "b\\text{t}"}
        told = plain("\\rule\\y#1{}\\text{u}", texts=texts)
        self.assertEqual(told[:4], ("ends", row("ba"), (19, 9, 1), 5))
        told = plain("\\rule\\y#1{}\\rule\\z{\\y}\\text{t}!", texts={"t": "a\\z !"})
        self.assertEqual(told[:4], ("ends", row("a"), (30, 4), 5))

    def test_the_end_is_at_fault_as_a_round_is(self):
        self.assertEqual(plain("{\\text{t}", texts={"t": "a!"})[:4], ("groups", [A], (9, 1), 3))
        self.assertEqual(plain("\\iflike aa!r")[:4], ("ask", [], (10,), 1))
        self.assertEqual(plain("{ !a")[:4], ("groups", row(" "), (2,), 2))


if __name__ == "__main__":
    unittest.main()
