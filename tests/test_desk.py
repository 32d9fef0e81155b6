"""Point 24, and point 2 of mouthrules/desk.py."""

import unittest

from helping import no_texts_at_all
from mouthrules import desk as desk_file
from mouthrules.books import DEEDS
from mouthrules.desk import Desk
from mouthrules.errors import Bare, MouthError, NoKey, NoMost, NoName, NoRow, TooMany

EIGHT = ("a", "b", "c", "d", "e", "f", "gg", "abcdefgh")


class DeskCase(unittest.TestCase):
    def said(self, desk, *pairs):
        """Each row gets that answer."""
        for told, wanted in pairs:
            with self.subTest(row=told):
                answer = desk.say(told)
                self.assertEqual(answer, wanted)
                self.assertIsInstance(answer, str)

    def refused(self, made, desk, *rows):
        for told in rows:
            with self.subTest(row=told):
                with self.assertRaises(made) as caught:
                    desk.say(told)
                self.assertIs(caught.exception.__class__, made)
        return caught.exception


class RowsTest(DeskCase):
    def test_names(self):
        desk = Desk()
        self.assertEqual(len(desk), 0)
        self.said(desk, ("names", "-"), ("new b", "ok"), ("names", "b"), ("new abcdefgh", "ok"), ("new a", "ok"),
                  ("names", "a abcdefgh b"), ("drop b", "ok"), ("names", "a abcdefgh"), ("drop a", "ok"),
                  ("drop abcdefgh", "ok"), ("names", "-"))
        self.assertEqual(len(desk), 0)

    def test_new_in_the_stead_of_one_there(self):
        desk = Desk()
        self.said(desk, ("new a", "ok"), ("read a 5 \\set1=7 ", "over"), ("put a t x", "ok"), ("box a 1", "7"), ("new a", "ok"),
                  ("box a 1", "0"), ("read a 5 \\text{t}", "fault text"), ("names", "a"))
        self.assertEqual(len(desk), 1)

    def test_read(self):
        desk = Desk()
        self.said(desk, ("new a", "ok"), ("read a 100 ab", "over ab"), ("read a 100 ", "over"), ("read a 0 ", "more"),
                  ("read a 2 abc", "more ab"), ("read a 0 abc", "more"), ("read a 9 ab\\q", "fault unknown ab"),
                  ("read a 9 \\q", "fault unknown"), ("read a 9 {", "fault groups"), ("read a 9 a{", "fault groups a"),
                  ("read a 9  a  b ", "over  a b "), ("read a 9  ", "over  "), ("read a 5000 a.1", "over a.1"),
                  ("read a 9 \t", "over  "), ("read a 9 \\iflike aa", "fault ask"), ("read a 9 #", "fault mark"))

    def test_texts_of_several_lines(self):
        desk = Desk()
        self.said(desk, ("new a", "ok"), ("read a 9 a!b;;c", "over ac"), ("read a 9 a!b;c", "over a"), ("read a 9 ;;", "over  "),
                  ("read a 9 ;;;", "over  ;"), ("read a 9 a;;;;b", "over a b"), ("read a 9 ;", "over ;"),
                  ("read a 9 a;;;!x;;;b", "over a ;;b"),
                  ("put a t a!b;;c", "ok"), ("read a 9 \\text{t}", "over ac"),
                  ("read a 9 {\\kind{;;}{letter}\\skip;;q}", "over q"), ("read a 9 \\kind{\\;;}{gone}x;;y", "over xy"))

    def test_the_book_is_kept_where_it_is_over(self):
        desk = Desk()
        self.said(desk, ("new a", "ok"), ("new b", "ok"), ("read a 9 \\set1=5 ", "over"), ("read a 9 \\set1=6 {", "fault groups"),
                  ("read a 1 \\set1=6 ", "more"), ("box a 1", "5"), ("box b 1", "0"), ("read a 9 \\set1=7 ", "over"),
                  ("box a 1", "7"), ("back a", "ok"), ("box a 1", "5"), ("back a", "ok"), ("box a 1", "0"))
        self.refused(Bare, desk, "back a", "back b")
        self.said(desk, ("names", "a b"))

    def test_put(self):
        desk = Desk()
        self.said(desk, ("new a", "ok"), ("put a t x y", "ok"), ("read a 9 \\text{t}", "over x y"), ("put a t ", "ok"),
                  ("read a 9 \\text{t}", "over"), ("put a abcdefgh  ", "ok"), ("read a 9 \\text{abcdefgh}", "over  "),
                  ("put a t  z ", "ok"), ("read a 9 \\text{t}", "over  z "), ("put a a \\text{t}", "ok"),
                  ("read a 9 \\text{a}", "over  z "))

    def test_mean(self):
        desk = Desk()
        self.said(desk, ("new a", "ok"))
        for word in DEEDS:
            self.said(desk, ("mean a " + word, "deed " + word))
        self.said(desk, ("mean a q", "none"), ("mean a ~", "none"), ("mean a " + "q" * 30, "none"), ("mean a ;;", "none"),
                  ("mean a \t", "none"), ("mean a a-b.", "none"), ("mean a \\", "none"),
                  ("read a 99 \\rule\\x#1 b#2.{#1\\y{#2}##}\\like\\y=1\\rule\\z{}\\like\\?=\\fi\\like\\b={\\like\\;=#", "over"),
                  ("mean a x", "rule 5 6"), ("mean a y", "piece 1"), ("mean a z", "rule 0 0"), ("mean a ?", "deed fi"),
                  ("mean a b", "piece {"), ("mean a ;", "piece #"), ("mean a fi", "deed fi"),
                  ("read a 99 \\like\\fi=a\\like\\else\\q\\name p-q\\endname", "over"), ("mean a fi", "piece a"),
                  ("mean a else", "none"), ("mean a p-q", "deed skip"))

    def test_mean_of_a_blank(self):
        desk = Desk()
        self.said(desk, ("new a", "ok"), ("read a 99 \\rule\\e#1#2{\\behind\\like\\behind#1#2}", "over"))
        # The only way to a blank behind a name of letters is one of what is handed.
        self.said(desk, ("read a 99 \\kind{?}{blank}\\rule\\s#1#2{\\like#1#2}", "over"),
                  ("mean a s", "rule 2 3"))

    def test_box(self):
        desk = Desk()
        self.said(desk, ("new a", "ok"), ("read a 99 \\set255=-12 \\set0=999999999999 ", "over"), ("box a 255", "-12"),
                  ("box a 0", "999999999999"), ("box a 7", "0"))

    def test_kind(self):
        desk = Desk()
        self.said(desk, ("new a", "ok"), ("kind a a", "letter"), ("kind a \\", "escape"), ("kind a \t", "blank"), ("kind a ;", "other"),
                  ("kind a {", "open"), ("kind a }", "shut"), ("kind a #", "mark"), ("kind a ~", "active"), ("kind a !", "remark"),
                  ("read a 99 \\kind{?}{gone}", "over"), ("kind a ?", "gone"))


class NoRowTest(DeskCase):
    def desk(self):
        desk = Desk()
        for told in ("new a", "new abcdefgh", "put a t x", "read a 9 \\set1=5 "):
            desk.say(told)
        return desk

    def test_what_is_none_of_these_rows(self):
        desk = self.desk()
        told = self.refused(NoRow, desk, "", " ", "x", "New a", "NEW a", "names ", " names", "names a", "name", "new", "new ",
                            "new  a", " new a", "new a ", "new a b", "new A", "new a1", "new abcdefghi", "new \u00e4", "new -",
                            "new\ta", "drop", "drop ", "drop a ", "drop a b", "drop A", "drop  a", "drop abcdefghi",
                            "back", "back ", "back a ", "back a 1", "back A", "back  a", "new new1", "desk", "say a")
        self.assertIsInstance(told, MouthError)
        self.refused(NoRow, desk, "read", "read a", "read a ", "read a 5", "read  a 5 x", "read a  5 x", "read A 5 x", "read a 05 x",
                     "read a 00 x", "read a 12345 x", "read a -1 x", "read a +1 x", "read a x 5", "read a 5\tx", "read 5 a x",
                     "read a 1.0 x", "read a  x", " read a 5 x", "read a 5a x", "read a \u0665 x", "read a \u00b2 x", "read abcdefghi 5 x")
        self.refused(NoRow, desk, "put", "put a", "put a t", "put  a t x", "put a  t x", "put A t x", "put a T x", "put a t1 x",
                     "put a abcdefghi x", "put a  x", "put a", " put a t x")
        self.refused(NoRow, desk, "mean", "mean a", "mean a ", "mean a x ", "mean a  x", "mean a x y", "mean A x", "mean a " + "q" * 31,
                     "mean  a x", "mean a \u00e4", "mean a \x00", " mean a x")
        self.refused(NoRow, desk, "box", "box a", "box a ", "box a 1 ", "box a  1", "box a 01", "box a 00", "box a -1", "box a 12345",
                     "box a 1 2", "box a x", "box A 1", "box 1 a", "box a 1.", "box a \u0661")
        self.refused(NoRow, desk, "kind", "kind a", "kind a ", "kind a  ", "kind a ab", "kind a a ", "kind a  a", "kind a a b", "kind A a",
                     "kind a \u00e4", "kind a \x00", "kind a \r")

    def test_line_feeds(self):
        self.refused(NoRow, self.desk(), "\n", "names\n", "\nnames", "new a\n", "read a 5 a\nb", "put a t \n", "mean a \n", "kind a \n",
                     "read a 5 \n", "drop a\n", "box a 1\n", "new q\n")

    def test_what_is_no_text(self):
        for thing in no_texts_at_all():
            with self.subTest(kind=thing.__class__):
                self.assertRaises(NoRow, self.desk().say, thing)

    def test_nothing_is_changed(self):
        desk = self.desk()
        self.refused(NoRow, desk, "read a 5 \\set1=9 \n", "new c ", "drop a ", "put a t", "back a ")
        self.said(desk, ("names", "a abcdefgh"), ("box a 1", "5"), ("read a 9 \\text{t}", "over x"))

    def test_made_of_a_text(self):
        with self.assertRaises(NoRow) as caught:
            Desk().say("x")
        self.assertEqual([part.__class__ for part in caught.exception.args], [str])


class RefusedTest(DeskCase):
    def test_names_by_which_nothing_is_kept(self):
        desk = Desk()
        desk.say("new a")
        desk.say("new c")
        desk.say("drop c")
        for name in ("b", "c", "abcdefgh", "names"):
            for told in (f"drop {name}", f"read {name} 5 x", f"put {name} t x", f"back {name}", f"mean {name} x", f"box {name} 1",
                         f"kind {name} a",
                         # Also where the points would refuse what is asked.
                         f"read {name} 9999 x", f"box {name} 256", f"box {name} 9999"):
                with self.subTest(row=told):
                    with self.assertRaises(NoName) as caught:
                        desk.say(told)
                    self.assertEqual(caught.exception.name, name)
        self.said(desk, ("names", "a"))

    def test_a_row_that_is_none_goes_first(self):
        self.refused(NoRow, Desk(), "drop b ", "read b 05 x", "put b T x", "mean b ", "box b x", "kind b ab", "back b c")

    def test_what_the_points_refuse(self):
        desk = Desk()
        desk.say("new a")
        self.assertEqual(self.refused(NoMost, desk, "read a 5001 x", "read a 9999 \\set1=5 ").most, 9999)
        self.assertEqual(self.refused(NoKey, desk, "box a 256").key, ("box", 256))
        self.refused(NoKey, desk, "box a 9999")
        self.refused(Bare, desk, "back a")
        self.said(desk, ("read a 5000 x", "over x"), ("box a 255", "0"), ("box a 1", "0"), ("back a", "ok"))
        self.refused(Bare, desk, "back a")

    def test_a_ninth_name(self):
        desk = Desk()
        for many, name in enumerate(EIGHT):
            self.assertEqual(len(desk), many)
            self.said(desk, ("new " + name, "ok"))
        self.assertEqual(len(desk), 8)
        for name in ("h", "aa", "zzzzzzzz", "new"):
            self.assertEqual(self.refused(TooMany, desk, "new " + name).many, 9)
        self.assertEqual((len(desk), desk.say("names")), (8, " ".join(sorted(EIGHT))))
        self.refused(NoRow, desk, "new A", "new h ", "new")
        # A name that is there is told anew.
        self.said(desk, ("read a 9 \\set1=5 ", "over"), ("new a", "ok"), ("box a 1", "0"))
        self.assertEqual(len(desk), 8)
        self.said(desk, ("drop a", "ok"), ("new h", "ok"))
        self.refused(TooMany, desk, "new a")

    def test_arguments_by_names(self):
        self.assertEqual(Desk().say(row="names"), "-")

    def test_desks_by_themselves(self):
        one, other = Desk(), Desk()
        one.say("new a")
        self.said(other, ("names", "-"))

    def test_the_class_has_its_methods_itself(self):
        self.assertEqual(Desk.__module__, desk_file.__name__)
        for method in ("__init__", "say", "__len__"):
            self.assertIn(method, vars(Desk))


if __name__ == "__main__":
    unittest.main()
