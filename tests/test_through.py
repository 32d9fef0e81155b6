"""Point 19 of rows gone through, and what point 21 says leans are."""

import copy
import unittest

from helping import (A, B, BLANK, MARK, OPEN, SHUT, ReadingCase, named, no_dicts_of_texts, refused_with, row,
                     told_or_word)
from mouthrules import machine as machine_file
from mouthrules.books import Book
from mouthrules.errors import Fault, NoTexts
from mouthrules.machine import gone_through

TILDE = ("active", "~")
HAND = ("hand", 1)


def book_of(**worths):
    """A book with these meanings of names, rules without marks where a list is handed in."""
    book = Book()
    for name, worth in worths.items():
        book.put(("name", name), ("rule", (), tuple(worth)) if isinstance(worth, list) else worth)
    return book


def come_to(pieces, **more):
    """The row that a row comes to, or the word of its fault."""
    told = told_or_word(gone_through, pieces, **more)
    return told if isinstance(told, str) else told[0]


class RowTest(ReadingCase):
    def test_all_else_is_taken(self):
        for pieces in ([], [A], row("a {b}# ~."), [HAND, ("hand", 9)], named("\\q", "\\set", "\\rule", "\\skip", "\\box"),
                       named("\\endname", "\\open", "\\shut", "\\later", "\\all", "\\through"), [("blank", " ")] * 3,
                       [("other", "a"), ("letter", "1"), ("active", "a")], row("a") * 3000):
            with self.subTest(pieces=pieces[:20]):
                told = gone_through(pieces)
                self.assertEqual(told[0], pieces)
                self.assertIsInstance(told, tuple)
                self.assertEqual([part.__class__ for part in told], [list, list])

    def test_what_can_be_exchanged_is(self):
        book = book_of(x=row("ab"), y=named("\\x", "\\x"), e=[], z=("rule", (HAND,), (OPEN, HAND, SHUT)))
        book.put(("box", 1), -12)
        for pieces, wanted in ((named("\\x", "c"), row("abc")), (named("\\y"), row("abab")), (named("\\e", "\\e"), []),
                               (named("\\z", "a"), row("{a}")), (named("\\z", "{a}"), row("{a}")), ([("name", "z"), HAND], [OPEN, HAND, SHUT]),
                               (named("\\z", "\\x"), row("{ab}")), (named("\\figures", "\\box", "1 "), row("-12")),
                               (named("\\behind", "\\z", "\\x"), row("{a}b")), (named("\\iflike", "aab", "\\fi"), row("b")),
                               (named("\\iflike", "aab", "\\else", "c", "\\fi", "d"), row("bd")),
                               (named("\\iflike", "abb", "\\else", "c", "\\fi", "d"), row("cd")),
                               (named("\\ifless", "1<2", "\\x", "\\fi"), row("ab")),
                               (named("\\text", "{t}", "c"), row("m nc")),
                               (named("\\name", "q1", "\\endname"), named("\\q1")), (named("\\name", "x", "\\endname"), row("ab"))):
            with self.subTest(pieces=pieces):
                self.assertEqual(come_to(pieces, book=book, texts={"t": "m \nn"}), wanted)

    def test_hands_in_asks(self):
        other = ("hand", 2)
        book = book_of(x=("piece", A))

        def asked(word, *pieces):
            told = come_to([("name", word), *pieces, *named("y", "\\else", "n", "\\fi")], book=book)
            return told[0][1]
        for word, pieces, wanted in (
                ("iflike", (HAND, HAND), "y"), ("iflike", (HAND, other), "n"), ("iflike", (HAND, ("name", "q")), "n"),
                ("ifsame", (HAND, other), "y"), ("ifsame", (HAND, ("name", "q")), "y"), ("ifsame", (HAND, TILDE), "y"),
                ("ifsame", (HAND, A), "n"), ("ifsame", (HAND, ("other", "1")), "n"), ("ifsame", (HAND, ("name", "x")), "n"),
                ("ifkind", (HAND, other), "y"), ("ifkind", (other, ("name", "q")), "y"), ("ifkind", (TILDE, HAND), "y"),
                ("ifkind", (HAND, A), "n"), ("ifkind", (("name", "x"), HAND), "n"), ("ifkind", (("name", "x"), B), "y")):
            with self.subTest(word=word, pieces=pieces):
                self.assertEqual(asked(word, *pieces), wanted)

    def test_hands_where_other_pieces_are_wanted(self):
        book = book_of(z=("rule", (HAND, ("other", ".")), (HAND, HAND)))
        self.assertEqual(come_to([("name", "figures"), HAND]), "number")
        self.assertEqual(come_to([*named("\\figures", "5"), HAND]), [("other", "5"), HAND])
        self.assertEqual(come_to([*named("\\name", "a"), HAND, ("name", "endname")]), "name")
        self.assertEqual(come_to([*named("\\text", "{"), HAND, *row("}")]), "text")
        self.assertEqual(come_to([*named("\\text"), HAND]), "text")
        self.assertEqual(come_to([("name", "z"), HAND, ("hand", 3), *row(".")], book=book), [HAND, ("hand", 3)] * 2)
        self.assertEqual(come_to([("name", "behind"), HAND, ("hand", 2)]), [HAND, ("hand", 2)])
        self.assertEqual(come_to([*named("\\iflike", "ab"), HAND, *named("\\else"), ("hand", 2), *named("\\fi")]), [("hand", 2)])

    def test_stay(self):
        book = book_of(x=row("ab"), st=("deed", "stay"), e=[], z=("rule", (HAND,), (HAND, HAND)))
        for pieces, wanted in ((named("\\stay", "\\x", "\\x"), named("\\x", "ab")), (named("\\st", "\\x"), named("\\x")),
                               (named("\\stay", "a"), row("a")), (named("\\stay", "\\stay", "\\x"), named("\\stay", "ab")),
                               (named("\\stay", "\\st", "\\st", "\\x"), named("\\st", "\\x")), ([("name", "stay"), HAND], [HAND]),
                               (named("\\stay", "\\fi"), named("\\fi")), (named("\\stay", " a"), row(" a")),
                               (named("\\stay", "\\row", "1"), named("\\row", "1")), (named("\\stay", "\\q"), named("\\q")),
                               (named("\\stay", "{}"), row("{}")), (named("\\z", "{", "\\stay", "\\x", "}"), named("\\x", "\\x")),
                               # What is handed is stay alone, twice, and the first one keeps the second.
                               (named("\\z", "\\stay", "\\x"), named("\\stay", "ab"))):
            with self.subTest(pieces=pieces):
                self.assertEqual(come_to(pieces, book=book), wanted)
        self.assertEqual(come_to(named("\\stay")), "ends")
        self.assertEqual(come_to(named("a", "\\e", "\\stay", "\\stay", "\\stay"), book=book), "ends")
        self.assertEqual(come_to(named("\\text", "{t}"), texts={"t": "\\stay"}), "ends")
        self.assertEqual(come_to(named("\\text", "{t}"), texts={"t": "\\stay\\"}), "ends")
        self.assertEqual(come_to(named("\\text", "{t}", "\\x"), texts={"t": "\\stay"}, book=book), named("\\x"))

    def test_stay_where_another_piece_is_wanted(self):
        book = book_of(x=row("ab"), z=("rule", (HAND,), (HAND, HAND)))
        self.assertEqual(come_to(named("\\figures", "\\stay", "1")), "number")
        self.assertEqual(come_to(named("\\name", "a", "\\stay", "\\endname")), "name")
        self.assertEqual(come_to(named("\\ifsame", "\\stay", "\\q", "a", "\\fi"), book=book), row("a"))
        self.assertEqual(come_to(named("\\behind", "a", "\\stay", "\\x"), book=book), named("a", "\\x"))

    def test_row_boxes_are_taken_as_they_are(self):
        book = book_of(x=row("ab"), rr=("deed", "row"), e=[])
        book.put(("row", 1), named("\\x", "#", "\\stay", "\\q", "{}"))
        book.put(("row", 2), named("\\row", "1 "))
        book.put(("box", 7), 2)
        taken = named("\\x", "#", "\\stay", "\\q", "{}")
        for pieces, wanted in ((named("\\row", "1 ", "a"), [*taken, A]), (named("\\rr", "1a"), [*taken, A]),
                               (named("\\row", "2 "), named("\\row", "1 ")), (named("\\row", "\\box", "7"), named("\\row", "1 ")),
                               (named("\\row", "\\e", "1", "\\x"), [*taken, A, B]), (named("\\row", "3 "), []),
                               (named("\\row", "--0", "\\e", "1", "\\e"), taken),
                               (named("a", "\\row", "1"), [A, *taken])):
            with self.subTest(pieces=pieces):
                self.assertEqual(come_to(pieces, book=book), wanted)
        for pieces, word in ((named("\\row", "256"), "number"), (named("\\row", "a"), "number"), (named("\\row"), "ends"),
                             (named("\\row", "-1"), "number"), (named("\\row", "1000000000000"), "great")):
            self.assertEqual(come_to(pieces, book=book), word)

    def test_a_row_box_that_is_put_by_others_goes_on(self):
        book = book_of(x=row("ab"), z=("rule", (HAND,), (HAND,)))
        book.put(("row", 1), named("\\x"))
        self.assertEqual(come_to(named("\\behind", "c", "\\row", "1 "), book=book), row("cab"))
        book.put(("row", 1), row("12"))
        self.assertEqual(come_to(named("\\figures", "\\row", "1 ", "3"), book=book), row("123"))

    def test_it_alone_waits(self):
        self.assertEqual(come_to(named("\\figures", "5")), row("5"))
        self.assertEqual(come_to(named("\\later")), named("\\later"))
        self.assertEqual(come_to(named("\\behind", "a")), "ends")

    def test_nothing_is_done(self):
        pieces = named("\\set", "1=5 ", "\\figures", "\\box", "1 ", "\\rule", "\\x", "{a}", "\\x")
        self.assertEqual(come_to(pieces), named("\\set", "1=5 ", "0", "\\rule", "\\x", "{a}", "\\x"))
        self.assertEqual(come_to(named("\\all", "\\figures", "1")), named("\\all", "1"))

    def test_kinds_of_texts_are_those_of_the_book(self):
        book = Book()
        book.put(("kind", "?"), "gone")
        book.put(("kind", "a"), "active")
        self.assertEqual(come_to(named("\\text", "{tt}"), texts={"tt": "?a?b!?\n{}"}, book=book), [("active", "a"), B, OPEN, SHUT])


class FaultsTest(ReadingCase):
    def test_each(self):
        book = book_of(u=("rule", (A,), ()), z=("rule", (HAND,), ()), lo=named("\\lo"))
        texts = {"o": "{", "s": "}", "e": "\\", "so": "}{"}
        for pieces, word in ((named("\\u", "b"), "use"), (named("\\u"), "ends"), (named("\\z", "}"), "groups"),
                             (named("\\iflike", "aa"), "ask"), (named("\\fi"), "ask"), (named("\\else"), "ask"),
                             (named("\\iflike", "aa", "\\else"), "ends"), (named("\\iflike", "ab", "\\else"), "ask"),
                             (named("\\iflike", "ab"), "ends"), (named("\\lo"), "long"), (row("{"), "groups"),
                             (row("}"), "groups"), (row("}{"), "groups"), (row("{{}"), "groups"), (named("\\iflike", "aa{"), "ask"),
                             (named("\\iflike", "aa}", "\\fi"), "groups"), (named("\\text", "{o}"), "groups"),
                             (named("\\text", "{s}"), "groups"), (named("\\text", "{so}"), "groups"),
                             (named("\\text", "{e}"), "ends"), (named("\\text", "{q}"), "text"), (named("\\text", "a"), "text"),
                             (named("\\name", "\\endname"), "name"), (named("\\figures", "a"), "number"),
                             (named("\\figures", "1000000000000"), "great"), (named("\\stay", "{"), "groups"),
                             (named("\\stay", "}"), "groups")):
            with self.subTest(pieces=pieces):
                self.assertEqual(come_to(pieces, book=book, texts=texts), word)
                with self.assertRaises(Fault) as caught:
                    gone_through(pieces, book=book, texts=texts)
                self.assertEqual(caught.exception.word, word)

    def test_what_is_put_together_may_be_balanced(self):
        self.assertEqual(come_to(named("\\text", "{o}", "a", "\\text", "{s}"), texts={"o": "{", "s": "}"}), row("{a}"))
        self.assertEqual(come_to(named("\\iflike", "ab{", "\\fi", "a")), row("a"))

    def test_bounds(self):
        book = book_of(e=[], lo=named("\\lo", "\\lo"), x=row("a") * 1001, y=named("\\x", "\\x"))
        self.assertEqual(come_to(named("\\e") * 300, book=book), [])
        self.assertEqual(come_to(named("\\e") * 301, book=book), "long")
        self.assertEqual(come_to(named("\\lo"), book=book), "long")
        self.assertEqual(come_to(named("\\x", "\\x"), book=book), row("a") * 2002)
        self.assertEqual(come_to(named("\\behind", "\\x", "\\x"), book=book), "long")
        for many, wanted in ((29, "over"), (31, "long")):
            names = [chr(97 + number // 26) + chr(97 + number % 26) for number in range(many)]
            texts = {name: "\\text{" + following + "}" for name, following in zip(names, names[1:])}
            texts[names[-1]] = "a"
            self.assertEqual(come_to(named("\\text", "{" + names[0] + "}"), texts=texts), [A] if wanted == "over" else "long")

    def test_a_row_of_any_length_is_not_too_long_by_itself(self):
        book = book_of(e=[])
        long_row = row("a") * 2999
        self.assertEqual(come_to(long_row), long_row)
        self.assertEqual(come_to(named("\\iflike", "aa") + long_row + named("\\fi")), long_row)
        self.assertEqual(come_to(named("\\iflike", "ab") + long_row + named("\\fi")), [])
        # But what is put, of no pieces too, may leave too many behind it.
        self.assertEqual(come_to(named("\\e") + row("a") * 2000, book=book), row("a") * 2000)
        self.assertEqual(come_to(named("\\e") + row("a") * 2001, book=book), "long")
        self.assertEqual(come_to(row("a") * 900 + named("\\e") + row("a") * 2000, book=book), row("a") * 2900)
        self.assertEqual(come_to(named("\\text", "{t}") + row("a") * 2001, texts={"t": ""}), "long")
        self.assertEqual(come_to(named("\\text", "{t}") + row("a") * 2000, texts={"t": ""}), row("a") * 2000)
        book.put(("row", 1), row("b") * 2500)
        self.assertEqual(come_to(named("\\row", "1 ") + row("a") * 2500, book=book), row("b") * 2500 + row("a") * 2500)


class LeansTest(unittest.TestCase):
    def leans(self, pieces, *wanted, **more):
        with self.subTest(pieces=pieces):
            self.assertEqual(gone_through(pieces, **more)[1], sorted(set(wanted)))

    def test_nothing_is_leaned_on(self):
        self.leans([])
        self.leans(row("a {b}#1"))
        self.leans([HAND])

    def test_names_and_active_signs(self):
        x, y, z = ("name", "x"), ("name", "y"), ("name", "z")
        book = book_of(x=named("\\y", "a"), z=("rule", (HAND,), (HAND,)), w=("rule", (HAND,), ()))
        self.leans([("name", "q")], ("name", "q"))
        self.leans([TILDE, TILDE], TILDE)
        self.leans([("name", "set"), TILDE, ("name", "q")], ("name", "set"), TILDE, ("name", "q"))
        self.leans([x], x, y, book=book)
        self.leans([z, x], x, y, z, book=book)
        # What is handed and left out isn't looked at.
        self.leans([("name", "w"), x], ("name", "w"), book=book)
        self.leans([("name", "stay"), x], ("name", "stay"), book=book)
        self.leans(named("\\stay", "\\x", "\\q"), ("name", "stay"), ("name", "q"), book=book)
        self.leans(named("\\behind", "\\w", "\\x"), ("name", "behind"), ("name", "w"), x, book=book)
        self.leans(named("\\behind", "\\w", "\\w", "\\x", "a"), ("name", "behind"), ("name", "w"), book=book)

    def test_asks(self):
        names = {word: ("name", word) for word in ("iflike", "ifsame", "ifkind", "ifless", "else", "fi", "q", "p")}
        self.leans(named("\\iflike", "\\p", "\\q", "\\fi"), names["iflike"], names["p"], names["q"], names["fi"])
        self.leans(named("\\ifsame", "\\p", "~", "\\fi"), names["ifsame"], names["p"], TILDE, names["fi"])
        self.leans(named("\\ifkind", "\\p", "a", "\\fi"), names["ifkind"], names["p"], names["fi"])
        # Raw ones that are passed over.
        self.leans(named("\\iflike", "ab", "\\p", "\\else", "\\q", "\\fi"), names["iflike"], names["p"], names["else"],
                   names["q"], names["fi"])
        self.leans(named("\\iflike", "aa", "\\p", "\\else", "\\q", "~", "\\fi"), names["iflike"], names["p"], names["else"],
                   names["q"], TILDE, names["fi"])
        self.leans(named("\\ifless", "1<2", "\\p", "\\fi"), names["ifless"], names["p"], names["fi"])

    def test_boxes_and_rows(self):
        book = Book()
        book.put(("box", 10), 9)
        book.put(("box", 9), 200)
        figures, box = ("name", "figures"), ("name", "box")
        self.leans(named("\\figures", "\\box", "3"), figures, box, ("box", 3))
        self.leans(named("\\figures", "\\box", "\\box", "10 "), figures, box, ("box", 9), ("box", 10), book=book)
        self.assertEqual(gone_through(named("\\figures", "\\box", "\\box", "10 "), book=book)[1][:2], [("box", 9), ("box", 10)])
        self.leans(named("\\row", "7 "), ("name", "row"), ("row", 7))
        self.leans(named("\\row", "\\box", "10 "), ("name", "row"), box, ("box", 10), ("row", 9), book=book)
        self.leans(named("\\behind", "a", "\\row", "7 "), ("name", "behind"), ("name", "row"), ("row", 7))
        self.leans(named("\\ifless", "\\box", "1=", "\\box", "2 ", "\\fi"), ("name", "ifless"), box, ("box", 1), ("box", 2),
                   ("name", "fi"))
        self.leans(named("\\figures", "7"), figures)

    def test_made_names(self):
        self.leans(named("\\name", "q 1", "\\endname"), ("name", "name"), ("name", "endname"), ("name", "q 1"))
        self.leans(named("\\behind", "\\stay", "\\name", "q", "\\endname"), ("name", "name"), ("name", "endname"), ("name", "q"),
                   ("name", "behind"), ("name", "stay"))

    def test_texts(self):
        def text(signs, *wanted, **more):
            self.leans(named("\\text", "{t}"), ("name", "text"), ("text", "t"), *wanted, texts={"t": signs, "u": "?"}, **more)

        def kinds(signs):
            return [("kind", sign) for sign in signs]
        text("")
        text("ab", *kinds("ab"))
        text("aab", *kinds("ab"))
        text("a \tb.", *kinds("a \tb."))
        text("\\skip", *kinds("\\skip"), ("name", "skip"))
        text("\\q1", *kinds("\\q1"), ("name", "q"))
        text("\\? ", *kinds("\\? "), ("name", "?"))
        text("~{}", *kinds("~{}"), TILDE)
        # What is passed: remarks with all their signs, what is gone.
        text("!x?\na", *kinds("!x?\na"))
        text("a!zy", *kinds("a!zy"))
        book = Book()
        book.put(("kind", "?"), "gone")
        text("?a?", *kinds("?a"), book=book)
        text("\\text{u}.", *kinds("\\text{u}.?"), ("text", "u"))

    def test_signs_behind_that_were_looked_at(self):
        # A rule of raw pieces takes what is ahead of the mark, and the row ends: all of a text is read in the end,
        # but for what stays behind a fault; so the sign behind is one that is read, too.
        self.leans(named("\\text", "{t}", "a"), ("name", "text"), ("text", "t"), ("kind", "\\"), ("kind", "q"), ("kind", "."),
                   ("name", "q"), texts={"t": "\\q."})

    def test_they_are_sorted_and_unlike(self):
        book = book_of(x=row("a"))
        told = gone_through(named("\\x", "~", "\\row", "10 ", "\\row", "9 ", "\\figures", "\\box", "2 ", "\\x", "\\text", "{t}"),
                            book=book, texts={"t": "ba"})[1]
        self.assertEqual(told, [("active", "~"), ("box", 2), ("kind", "a"), ("kind", "b"), ("name", "box"), ("name", "figures"),
                                ("name", "row"), ("name", "text"), ("name", "x"), ("row", 9), ("row", 10), ("text", "t")])


class GivenTest(unittest.TestCase):
    def test_nothing_is_changed(self):
        book, texts = book_of(x=row("ab")), {"t": "a"}
        book.put(("row", 1), row("q"))
        pieces = named("\\x", "\\name", "q", "\\endname", "\\text", "{t}", "\\row", "1")
        kept = copy.deepcopy((pieces, texts)), book.twin()
        told = gone_through(pieces, book=book, texts=texts)
        self.assertEqual(((pieces, texts), book), kept)
        told[0].append(BLANK)
        told[1].clear()
        self.assertEqual(gone_through(pieces, book=book, texts=texts)[0], [*row("ab"), ("name", "q"), *row("aq")])
        self.assertEqual(((pieces, texts), book), kept)
        gone_through(named("\\row", "1"), book=book)[0].append(MARK)
        self.assertEqual(book, kept[1])

    def test_refusals(self):
        for thing in no_dicts_of_texts():
            with self.subTest(kind=thing.__class__):
                refused_with(self, NoTexts, "thing", thing, gone_through, [A], texts=thing)
                refused_with(self, NoTexts, "thing", thing, gone_through, named("\\fi"), texts=thing, book=None)

    def test_arguments_by_names(self):
        book = book_of(x=row("ab"))
        self.assertEqual(gone_through(texts={"t": "c"}, book=book, row=named("\\x", "\\text", "{t}"))[0], row("abc"))
        self.assertRaises(TypeError, gone_through, [A], book)
        self.assertEqual(gone_through([A], book=None, texts=None), ([A], []))

    def test_without_a_book(self):
        self.assertEqual(gone_through(named("\\figures", "5")), (row("5"), [("name", "figures")]))

    def test_a_book_with_groups(self):
        book = Book()
        book.begin("signs")
        self.assertEqual(gone_through(row("a"), book=book)[0], row("a"))
        self.assertEqual(book.depth(), 1)

    def test_the_function_stands_in_its_file(self):
        self.assertEqual(gone_through.__module__, machine_file.__name__)


if __name__ == "__main__":
    unittest.main()
