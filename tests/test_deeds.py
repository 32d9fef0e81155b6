"""Point 16: what is done, one by one."""

import unittest

from helping import A, B, BLANK, MARK, ReadingCase, marked, named, row
from mouthrules.books import DEEDS, EXCHANGED, Book
from mouthrules.pieces import KINDS
from mouthrules.plain import plain


def book_of(*pairs):
    book = Book()
    for key, worth in pairs:
        book.put(key, worth)
    return book


def meaning_pieces():
    """A book in which names mean sign pieces."""
    return book_of(*[(("name", name), ("piece", piece)) for name, piece in
                     (("a", ("other", "a")), ("b", BLANK), ("o", ("open", "(")), ("s", ("shut", ")")), ("m", MARK))],
                   (("active", "~"), ("piece", ("letter", "?"))), (("active", "&"), ("piece", ("shut", "&"))))


class ToldTest(ReadingCase):
    def test_letters_others_and_blanks(self):
        self.assertEqual(plain("a1 \t\n.")[1], [A, ("other", "1"), BLANK, ("other", ".")])
        self.reads(("a  b", "over a b"), ("!a\nb", "over b"), ("", "over "), (" ", "over  "))

    def test_names_that_mean_one(self):
        told = plain("\\a~\\b b", book=meaning_pieces())
        self.assertEqual(told[:2], ("over", [("other", "a"), ("letter", "?"), BLANK, B]))

    def test_kinds_stay_as_they_were_read(self):
        self.assertEqual(plain("\\like\\x=?\\kind{?}{letter}\\x ?")[1], [("other", "?"), ("letter", "?")])

    def test_what_is_at_fault(self):
        self.fails("mark", "#", "a#1", "\\m", "\\like\\x=#\\x", book=meaning_pieces())
        self.fails("unknown", "\\q", "~", "\\?", "\\a", "\\ab", "\\\\", "a\\ b")
        self.fails("name", "\\endname", "\\like\\x\\endname\\x")
        self.fails("number", "\\box", "\\box1 ", "\\like~\\box~")
        self.fails("ends", "\\", "a\\", "{\\")

    def test_nothing_is_done(self):
        self.reads(("\\skip a\\stay b\\stay\\q", "unknown ab"), ("\\stay\\skip", "over "))
        self.assertEqual(plain("\\skip\\stay")[3:], (2, Book()))


class GroupsTest(ReadingCase):
    def test_what_is_set_is_given_back(self):
        for begin, end in (("{", "}"), ("\\open ", "\\shut "), ("\\o ", "\\s "), ("{", "\\s "), ("\\o ", "}"), ("{", "&")):
            text = "\\kind{&}{active}" + begin + "\\set1=5 \\rule\\x{a}\\kind{?}{gone}\\keep1={a}\\x?\\figures\\box1 " + end + "?"
            with self.subTest(begin=begin, end=end):
                told = plain(text, book=meaning_pieces())
                self.assertEqual(told[:2], ("over", row("a5?")))
                book = meaning_pieces()
                book.put(("kind", "&"), "active")
                self.assertEqual(told[4], book)

    def test_groups_within_groups(self):
        self.reads(("\\set1=1 {\\set1=2 {\\set1=3 \\figures\\box1 }\\figures\\box1 }\\figures\\box1 ", "over 321"),
                   ("{\\open{}\\shut}", "over "))

    def test_faults(self):
        self.fails("groups", "}", "\\shut", "{", "\\open", "{\\shut}", "\\open}\\shut", "{}}", "{{}", "\\s", "\\o",
                   "\\o\\shut", "{\\open}\\shut", "\\open\\s", book=meaning_pieces())
        self.reads(("a}", "groups a"), ("{a", "groups a"), ("{a\\shut}", "groups a"))

    def test_a_book_with_groups(self):
        book = Book()
        book.begin("signs")
        self.reads(("a", "groups a"), ("a}b", "over ab"), ("\\shut", "groups "), book=book)
        self.assertEqual(book.depth(), 1)

    def test_signs_of_other_kinds(self):
        self.reads(("\\kind{(}{open}\\kind{)}{shut}({)}", "over "), ("\\kind{\\{}{other}{", "over {"))

    def test_what_ends_a_group_is_told_by_the_kinds_by_then(self):
        self.fails("groups", "{\\kind{\\}}{other}}")
        self.reads(("{\\kind{?}{shut}?a?", "over a?"))


class LaterTest(ReadingCase):
    def test_pieces_are_put_in_order(self):
        self.reads(
            ("{\\later a\\later b c}d", "over  cabd"),
            ("\\open\\later a\\later{\\later}b\\shut c", "over bac"),
            ("{\\later a{\\later b}c}", "over bca"),
            ("\\rule\\x{p}{\\later\\x\\rule\\x{q}\\x}", "over qp"),
            ("{\\later\\q}", "unknown "),
            ("{\\later~}", "unknown "),
            ("{\\later#}", "mark "),
            ("{\\later\\later}a", "groups "),
            ("{\\later\\iflike}aab\\fi", "over b"),
            ("\\rule\\x#1{[#1]}{\\later\\x}a", "over [a]"),
            ("{\\later a \\later\\?}\\q", "unknown  a"),
        )

    def test_they_are_raw(self):
        self.reads(("\\rule\\x{ab}{\\later\\x c}", "over cab"), ("\\behind\\later\\x", "groups "))

    def test_pieces_that_end_or_begin_groups(self):
        self.reads(("{{\\later}}", "over "), ("{\\later{}a}", "over a"), ("{\\later}}", "groups "))

    def test_faults(self):
        self.fails("groups", "\\later a", "{}\\later a", "\\later\\q", "\\later#")
        self.fails("ends", "\\later", "{\\later", "{\\later\\", "{\\later!}")


class RuleTest(ReadingCase):
    def test_rules(self):
        self.keeps("\\rule\\x{}", ("name", "x"), ("rule", (), ()))
        self.keeps("\\rule  \\x #1 b#2{#2{#1}##\\y~1}", ("name", "x"),
                   ("rule", (("hand", 1), BLANK, B, ("hand", 2)),
                    (("hand", 2), ("open", "{"), ("hand", 1), ("shut", "}"), MARK, ("name", "y"), ("active", "~"),
                     ("other", "1"))))
        self.keeps("\\rule~a{b}", ("active", "~"), ("rule", (A,), (B,)))
        self.keeps("\\rule\\?\\y~{}", ("name", "?"), ("rule", (("name", "y"), ("active", "~")), ()))
        self.keeps("\\like~=\\rule~ \\x{}", ("name", "x"), ("rule", (), ()))
        self.keeps("\\rule\\rule{}", ("name", "rule"), ("rule", (), ()))
        self.keeps("\\rule\\x#1#2#3#4#5#6#7#8#9{#9}", ("name", "x"), ("rule", marked("123456789"), marked("9")))

    def test_it_is_of_raw_pieces(self):
        self.keeps("\\rule\\y{z}\\rule\\x\\y{\\y}", ("name", "x"), ("rule", (("name", "y"),), (("name", "y"),)))
        self.keeps("\\rule\\y{z}\\rule\\y{\\y}", ("name", "y"), ("rule", (), (("name", "y"),)))
        self.keeps("\\rule\\x\\iflike{\\fi}", ("name", "x"), ("rule", (("name", "iflike"),), (("name", "fi"),)))

    def test_what_is_given_a_meaning(self):
        for word in ("rule", "through", "like"):
            self.fails("marks", f"\\{word} a{{}}", f"\\{word}{{}}", f"\\{word}#{{}}", f"\\{word}1", f"\\{word}}}",
                       f"\\{word}  =", f"\\{word} a\\")
            self.fails("ends", f"\\{word}", f"\\{word}  ", f"\\{word} !", f"\\{word}\\")

    def test_faults_of_the_rule(self):
        for word in ("rule", "through"):
            self.fails("marks", f"\\{word}\\x#2{{}}", f"\\{word}\\x#a{{}}", f"\\{word}\\x#1#1{{}}", f"\\{word}\\x##{{}}",
                       f"\\{word}\\x{{#1}}", f"\\{word}\\x#1{{#2}}", f"\\{word}\\x{{#a}}", f"\\{word}\\x{{#{{}}}}",
                       f"\\{word}\\x#{{}}", f"\\{word}\\x#}}", f"\\{word}\\x" + "." * 31 + "{}", f"\\{word}\\x{{#}}")
            self.fails("ends", f"\\{word}\\x", f"\\{word}\\x#", f"\\{word}\\x{{", f"\\{word}\\x{{a{{}}", f"\\{word}\\x{{#",
                       f"\\{word}\\x\\", f"\\{word}\\x" + "." * 30)
            self.fails("groups", f"\\{word}\\x}}", f"\\{word}\\x a}}", f"{{\\{word}\\x}}")
            self.reads((f"\\{word}\\x" + "." * 30 + "{}", "over "))

    def test_a_rule_goes_over_what_waits(self):
        self.keeps("\\rule\\y{\\rule\\x a}\\y.{b}", ("name", "x"), ("rule", (A, ("other", ".")), (B,)))
        self.keeps("\\text{t}b{\\q}", ("name", "x"), ("rule", (A, B), (("name", "q"),)), texts={"t": "\\rule\\x a"})

    def test_in_groups_and_for_all(self):
        self.keeps("{\\rule\\x{}}", ("name", "x"), None)
        self.keeps("{{\\all\\rule\\x{}}}", ("name", "x"), ("rule", (), ()))


class ThroughTest(ReadingCase):
    def test_the_body_is_gone_through(self):
        self.keeps("\\rule\\y{ab}\\through\\x{\\y\\y c}", ("name", "x"), ("rule", (), tuple(row("ababc"))))
        self.keeps("\\rule\\y#1{[#1]}\\through\\x#1{\\y#1\\y{#1}}", ("name", "x"),
                   ("rule", marked("1"), marked("[1][1]")))
        self.keeps("\\set1=7 \\through\\x{\\figures\\box1 \\set}", ("name", "x"), ("rule", (), tuple(named("7", "\\set"))))
        self.keeps("\\rule\\y{a}\\through\\x{\\stay\\y\\y}", ("name", "x"), ("rule", (), tuple(named("\\y", "a"))))
        self.keeps("\\rule\\y{a}\\keep1={\\y{}##}\\through\\x{\\row1 \\y}", ("name", "x"),
                   ("rule", (), tuple(named("\\y", "{}##a"))))
        self.keeps("\\rule\\y{a}\\through\\x\\y{}", ("name", "x"), ("rule", (("name", "y"),), ()))
        self.keeps("\\through\\x{\\text{t}}", ("name", "x"), ("rule", (), (A, BLANK)), texts={"t": "a "})
        self.keeps("\\rule\\y{a}{\\all\\through\\x{\\y}}", ("name", "x"), ("rule", (), (A,)))
        self.keeps("\\through\\x#1{\\iflike#1#1a\\else b\\fi}", ("name", "x"), ("rule", marked("1"), marked("a")))

    def test_what_was_told_by_then_counts(self):
        self.reads(("\\rule\\y{a}\\through\\x{\\y}\\rule\\z{\\y}\\rule\\y{b}\\x\\z", "over ab"))

    def test_it_is_gone_through_by_a_twin(self):
        told = plain("\\through\\x{\\name q\\endname}")
        self.assertEqual(told[4].worth(("name", "x")), ("rule", (), (("name", "q"),)))
        self.assertIsNone(told[4].worth(("name", "q")))

    def test_faults(self):
        self.fails("ask", "\\through\\x{\\iflike aa}", "\\through\\x{\\fi}", "\\through\\x{\\else}",
                   "\\iflike aa\\through\\x{\\fi}\\fi")
        self.fails("ends", "\\through\\x{\\iflike ab}", "\\through\\x{\\stay}a", "\\through\\x{\\figures}1",
                   "\\rule\\y#1{}\\through\\x{\\y}a", "\\through\\x{\\behind a}b")
        self.fails("groups", "\\through\\x{\\text{o}}", "\\through\\x{\\text{s}}",
                   texts={"o": "{", "s": "}{"})
        self.fails("number", "\\through\\x{\\row256 }", "\\through\\x{\\figures a}")
        self.fails("name", "\\through\\x{\\name\\endname}")
        self.fails("long", "\\rule\\y{\\y}\\through\\x{\\y}")
        self.fails("groups", "\\rule\\y#1{}\\through\\x{{\\y}}")
        self.fails("ends", "\\through\\x{\\text{e}}", texts={"e": "\\"})

    def test_faults_of_the_rule_go_first(self):
        self.fails("marks", "\\through\\x{\\fi#1}")
        self.fails("ends", "\\through\\x{\\fi")


class LikeTest(ReadingCase):
    def test_meanings(self):
        for text, worth in (("\\like\\x a", ("piece", A)), ("\\like\\x=a", ("piece", A)), ("\\like\\x = a", ("piece", A)),
                            ("\\like\\x  =  a", ("piece", A)), ("\\like\\x==", ("piece", ("other", "="))),
                            ("\\like\\x= =", ("piece", ("other", "="))), ("\\like\\x{", ("piece", ("open", "{"))),
                            ("\\like\\x=}", ("piece", ("shut", "}"))), ("\\like\\x=#", ("piece", MARK)),
                            ("\\like\\x=\\fi", ("deed", "fi")), ("\\like\\x\\skip", ("deed", "skip")),
                            ("\\like\\x\\q", None), ("\\like\\x=~", None), ("\\rule\\y a{b}\\like\\x\\y", ("rule", (A,), (B,))),
                            ("\\like\\y=a\\like\\x=\\y", ("piece", A)), ("\\like\\x\\x", None),
                            ("\\like \\x \t=\n a", ("piece", A))):
            self.keeps(text, ("name", "x"), worth)
        self.keeps("\\like~=1", ("active", "~"), ("piece", ("other", "1")))
        self.keeps("\\like\\fi=\\else", ("name", "fi"), ("deed", "else"))
        self.keeps("\\like\\skip\\q", ("name", "skip"), None)
        self.keeps("\\like\\ =a", ("name", " "), ("piece", A))

    def test_a_blank_is_passed(self):
        self.reads(("\\like\\x= \\s \\iflike\\x\\s y\\fi", "over y"), book=book_of((("name", "s"), ("piece", BLANK))))

    def test_it_is_as_by_then(self):
        self.reads(("\\rule\\y{a}\\like\\x\\y\\rule\\y{b}\\x\\y", "over ab"))

    def test_pieces_are_raw(self):
        self.keeps("\\rule\\e{=}\\like\\x\\e", ("name", "x"), ("rule", (), (("other", "="),)))

    def test_ends(self):
        self.fails("ends", "\\like\\x", "\\like\\x ", "\\like\\x=", "\\like\\x= ", "\\like\\x \\", "\\like\\x=!a")

    def test_it_is_not_read_in_vain(self):
        self.reads(("\\like\\x=a\\x b", "over ab"), ("\\like\\x=ab", "over b"))


class KindTest(ReadingCase):
    def test_all_kinds(self):
        for kind in KINDS:
            self.keeps("\\kind{?}{" + kind + "}", ("kind", "?"), kind)
            self.keeps("\\kind {a}\n {" + kind + "}", ("kind", "a"), kind)

    def test_signs(self):
        for group, sign in (("a", "a"), (" ", " "), ("#", "#"), ("~", "~"), ("1", "1"), ("\\x", "x"), ("\\?", "?"), ("\\{", "{"),
                            ("\\}", "}"), ("\\\\", "\\"), ("\\!", "!"), ("\\ ", " "), ("\\\t", "\t"), ("\\\n", "\n"),
                            ("\\x ", "x"), ("!\n.", "."), ("\\#", "#"), ("\t", " ")):
            kind = Book().worth(("kind", sign))
            other = "gone" if kind != "gone" else "mark"
            self.keeps("\\kind{" + group + "}{" + other + "}", ("kind", sign), other)

    def test_they_are_raw(self):
        self.keeps("\\rule\\x{a}\\kind{\\x}{gone}", ("kind", "x"), "gone")
        self.keeps("\\rule~{a}\\kind{~}{gone}", ("kind", "~"), "gone")

    def test_what_is_no_sign_or_no_kind(self):
        for one in ("", "ab", "a ", " a", "\\xy", "{}", "{a}", "a{}", "\\x\\y", "##"):
            self.fails("kind", "\\kind{" + one + "}{letter}")
        for other in ("", "Letter", "letters", "lette", " letter", "letter ", "let ter", "letter1", "\\letter", "{letter}",
                      "name", "hand", "a", "1", "le!\ntter."):
            self.fails("kind", "\\kind{a}{" + other + "}")
        self.fails("kind", "\\kind{a}{\\x}", "\\kind{a}{letter\\x}", book=book_of((("name", "x"), ("piece", A))))
        self.fails("kind", "\\kind{t}{other}\\kind{a}{letter}")
        self.reads(("\\kind{a}{le!x\ntter}", "over "))

    def test_both_groups_are_taken_ahead_of_any_look(self):
        self.fails("ends", "\\kind{ab}", "\\kind{ab}{letter", "\\kind{ab}{\\", "\\kind", "\\kind ", "\\kind{a", "\\kind{a}!")
        self.fails("kind", "\\kind a", "\\kind\\x", "\\kind}", "\\kind#\\", "\\kind{ab}a\\", "\\kind{a}\\x{letter}",
                   "\\rule\\x{{a}}\\kind\\x{letter}")

    def test_what_is_read_behind_it(self):
        self.reads(("\\kind{a}{gone}aba", "over b"), ("a\\kind{a}{gone}a\\kind{\\a}{letter}a", "over aa"),
                   ("{\\kind{a}{gone}ab}a", "over ba"), ("\\kind{b}{blank}abbc", "over a c"),
                   ("\\kind{?}{remark}a?b?\nc", "over ac"), ("\\kind{?}{escape}?skip ?stay a", "over a"),
                   ("\\kind{?}{active}\\rule?{b}?a", "over ba"), ("{{\\all\\kind{a}{gone}}}a", "over "),
                   ("\\kind{?}{mark}\\rule\\x?1{?1?1}\\x a", "over aa"))


class BoxesTest(ReadingCase):
    def test_set(self):
        for text, key, worth in (("\\set1=5", 1, 5), ("\\set1=-5 ", 1, -5), ("\\set 255 = 7 ", 255, 7), ("\\set0=0", 0, 0),
                                 ("\\set--7=- -7 ", 7, 7), ("\\set7  =999999999999 ", 7, 999999999999),
                                 ("\\set1=5 \\set2=\\box1 ", 2, 5), ("\\set1=5 \\set\\box1 =\\box1", 5, 5),
                                 ("\\set1=5 \\set1=-\\box1 ", 1, -5), ("\\set1=5 \\set1=6", 1, 6)):
            self.keeps(text, ("box", key), worth)

    def test_add(self):
        for text, worth in (("\\add1=5", 5), ("\\set1=5 \\add1=-7 ", -2), ("\\add1=1\\add1=2\\add1=3 ", 6),
                            ("\\set1=5 \\add1=\\box1 ", 10), ("\\set1=999999999998 \\add1=1", 999999999999),
                            ("\\set1=-999999999998 \\add1=-1", -999999999999), ("\\set1=5 \\add1=-5", 0)):
            self.keeps(text, ("box", 1), worth)

    def test_great(self):
        self.fails("great", "\\set1=999999999999 \\add1=1", "\\set1=-999999999999 \\add1=-1", "\\add1=1000000000000",
                   "\\set1=1000000000000", "\\set1000000000000=1", "\\set1=500000000000 \\add1=\\box1 ")
        self.reads(("\\set1=999999999999 \\add1=-1999", "over "), ("\\set1=-999999999999 \\add1=999999999999 ", "over "))

    def test_numbers_beyond(self):
        for word in ("set", "add", "keep"):
            self.fails("number", f"\\{word}256=1", f"\\{word}-1=1", f"\\{word}256\\q", f"\\{word}300", f"\\{word} a",
                       f"\\{word}1 1", f"\\{word}1a", f"\\{word}1\\q", f"\\{word}1{{", f"\\{word}1==")
            self.fails("ends", f"\\{word}", f"\\{word}1", f"\\{word}1 ", f"\\{word}1=", f"\\{word}1 =  ", f"\\{word}1=\\",
                       f"\\{word}256\\")
            self.fails("ask", f"\\{word}256\\fi")

    def test_pieces_are_exchanged(self):
        book = book_of((("name", "x"), ("rule", (), tuple(row(" ")))), (("name", "e"), ("rule", (), tuple(row("=")))),
                       (("name", "z"), ("rule", (), ())), (("name", "m"), ("piece", ("other", "="))))
        for text in ("\\set1\\e5 ", "\\set1\\x\\x\\x=5 ", "\\set1 \\x\\e\\x5 ", "\\set1\\z\\z=\\z5 ", "\\set\\x1\\x\\e\\x 5"):
            self.keeps(text, ("box", 1), 5, book=book)
        self.fails("number", "\\set1\\m5", book=book)
        self.fails("number", "\\kind{=}{letter}\\set1=5")
        self.reads(("\\set1\\z=5\\z6 \\figures\\box1 ", "over 56"), book=book)

    def test_keep(self):
        for text, worth in (("\\keep1={}", []), ("\\keep1={a{b}}", row("a{b}")), ("\\keep 1 = {a}", row("a")),
                            ("\\keep1=  \n{ a}", row(" a")), ("\\keep1={#1##}", row("#1##")),
                            ("\\keep1={\\q~\\set}", named("\\q", "~", "\\set")),
                            ("\\rule\\y{b}\\keep1={\\y}", named("\\y"))):
            self.keeps(text, ("row", 1), worth)
        self.keeps("\\keep255={a}", ("row", 255), [A])
        self.keeps("\\keep1={a}\\keep1={}", ("row", 1), [])
        self.fails("number", "\\keep1=a", "\\keep1=}", "\\keep1=\\x", "\\keep1= 1", "\\rule\\x{{a}}\\keep1=\\x")
        self.fails("ends", "\\keep1={", "\\keep1={{}", "\\keep1={\\", "\\keep1= ")

    def test_in_groups_and_for_all(self):
        self.keeps("{\\set1=5 }", ("box", 1), 0)
        self.keeps("{{\\all\\set1=5 }}", ("box", 1), 5)
        self.keeps("\\set1=1{\\add1=5 }", ("box", 1), 1)
        self.keeps("\\set1=1{\\set1=2{\\all\\add1=5 }}", ("box", 1), 7)
        self.keeps("{\\keep1={a}}", ("row", 1), [])
        self.keeps("{\\all\\keep1={a}}", ("row", 1), [A])


class AllTest(ReadingCase):
    def test_what_sets(self):
        for text, key, worth in (("\\rule\\x{}", ("name", "x"), ("rule", (), ())), ("\\like\\x=a", ("name", "x"), ("piece", A)),
                                 ("\\through\\x{}", ("name", "x"), ("rule", (), ())), ("\\set1=5", ("box", 1), 5),
                                 ("\\add1=5", ("box", 1), 5), ("\\keep1={a}", ("row", 1), [A]),
                                 ("\\kind{a}{gone}", ("kind", "a"), "gone")):
            for lead in ("\\all", "\\all\\all", "\\all" * 50, "\\rule\\x{}\\all\\x", "\\like~\\all~", "\\all \n",
                         "\\all\\iflike aa\\fi", "\\all!\n"):
                self.keeps("{\\open" + lead + text + "\\shut}", key, worth)
                self.keeps("{" + text + "}", key, Book().worth(key))

    def test_deeds_by_other_names(self):
        self.keeps("\\like~=\\set{\\all~1=5 }", ("box", 1), 5)
        self.keeps("\\rule\\x{\\set}{\\all\\x1=5 }", ("box", 1), 5)
        self.keeps("\\rule\\x{\\all\\y}\\rule\\y{\\set1}{\\x=5 }", ("box", 1), 5)

    def test_all_else(self):
        for word in DEEDS:
            if word not in EXCHANGED and word not in ("rule", "through", "like", "kind", "set", "add", "keep", "all"):
                self.fails("all", "\\all\\" + word)
        self.fails("all", "\\all a", "\\all{", "\\all}", "\\all1", "\\all#", "\\all\\q", "\\all~", "\\all\\?\\",
                   "\\like\\x=a\\all\\x", "\\rule\\x{a}\\all\\x", "\\all\\iflike aaa\\fi", "\\all\\figures1 ")
        self.fails("all", "\\all\\x", book=book_of((("name", "x"), ("rule", (), (BLANK, ("name", "set"))))))
        self.fails("ends", "\\all", "\\all\\all", "\\all\\", "\\rule\\x{}\\all\\x")
        self.fails("ask", "\\all\\fi", "\\all\\else")

    def test_it_is_one_round(self):
        self.assertEqual(plain("\\all\\all\\set1=5")[3], 1)


class FirstFaultTest(ReadingCase):
    """Which one of two faults comes first: that which shows first as pieces are taken."""

    def test_they_come_as_they_show(self):
        self.fails("ends", "\\later", "\\later\\")
        self.fails("groups", "\\later a\\")
        self.fails("number", "\\set256=\\", "\\set256a\\")
        self.fails("marks", "\\rule a\\", "\\rule\\x#2\\", "\\through\\x#2\\")
        self.fails("kind", "\\kind{}a\\", "\\kind{ab}{x}\\")
        self.fails("great", "\\add1=1000000000000\\")
        self.fails("all", "\\all a\\")
        self.fails("text", "\\text a\\", "\\text{q}\\")
        self.fails("ends", "\\text{1\\", "\\kind{ab}{1\\")


if __name__ == "__main__":
    unittest.main()
