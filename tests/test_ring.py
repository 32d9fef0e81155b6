"""Points 20 and 3 (h): rings."""

import unittest

from helping import A, no_mosts, refused_with
from naive import naive_ring
from mouthrules import machine as machine_file
from mouthrules.books import Book
from mouthrules.errors import NoMost
from mouthrules.machine import Machine, ring

LOOP = "\\rule\\x{\\x}\\x"


def counting(many, lead=0):
    """A text whose ring has so many rounds for each of several numbers."""
    return "\\set2=0 " * lead + f"\\rule\\x{{\\add1=1\\ifless\\box1={many} \\set1=0\\fi\\x}}\\x"


class RingTest(unittest.TestCase):
    def test_a_ring_that_begins_at_0(self):
        machine = Machine(LOOP)
        self.assertEqual(ring(machine), (2, 3))
        machine.round()
        self.assertEqual(ring(machine), (1, 2))
        machine.round()
        self.assertEqual(ring(machine), (0, 1))
        machine.run(most=7)
        self.assertEqual(ring(machine), (0, 1))

    def test_later_ones(self):
        self.assertEqual(ring(Machine("\\rule\\x{a\\y}\\rule\\y{b\\x}\\x")), (3, 7))
        self.assertEqual(ring(Machine("abc" + LOOP)), (5, 6))
        self.assertEqual(ring(Machine("\\rule\\x{{\\x}}\\rule\\y{\\y}\\y")), (3, 4))

    def test_all_of_it_must_be_alike(self):
        # The told row grows, but isn't asked for.
        self.assertEqual(ring(Machine("\\rule\\x{a\\x}\\x")), (2, 4))
        # Places, what waits, asks, groups, boxes.
        self.assertIsNone(ring(Machine("\\rule\\x{\\x a}\\x"), most=100))
        self.assertIsNone(ring(Machine("\\rule\\x{\\open\\x}\\x"), most=300))
        self.assertIsNone(ring(Machine("\\rule\\x{\\iflike aa\\x}\\x"), most=300))
        self.assertIsNone(ring(Machine("\\rule\\x{\\add1=1\\x}\\x"), most=300))
        self.assertIsNone(ring(Machine("\\rule\\x{\\later a\\x}{\\x"), most=300))
        self.assertIsNone(ring(Machine("a" * 500), most=300))
        self.assertEqual(ring(Machine("\\rule\\x{{\\x}\\rule\\x{\\open\\shut\\x}\\x")), None)

    def test_groups_that_begin_and_end(self):
        self.assertEqual(ring(Machine("\\rule\\x{\\open\\shut\\x}\\x")), (2, 5))
        self.assertEqual(ring(Machine("\\rule\\x{\\open\\set1=5\\shut\\x}\\x")), (2, 6))
        self.assertEqual(ring(Machine("\\rule\\x{\\iflike aa\\fi\\x}\\x")), (2, 5))

    def test_texts(self):
        self.assertEqual(ring(Machine("\\rule\\x{\\text{a}\\x}\\x", texts={"a": ""})), (2, 4))
        self.assertEqual(ring(Machine("\\rule\\x{\\text{a}\\x}\\x", texts={"a": "b"})), (2, 5))
        self.assertIsNone(ring(Machine("\\text{a}", texts={"a": "\\text{a}"})))
        # One of them is over and gone ahead of the next one.
        self.assertEqual(ring(Machine("\\rule\\x{\\text{a}}\\x", texts={"a": "b\\x "})), None)
        # Two unlike ones at the same place, ahead of the same row.
        text = "\\rule\\x{\\text{a}\\w}\\rule\\w{\\text{b}\\w}\\x"
        for texts in ({"a": "1", "b": "2"}, {"a": "1", "b": "1"}, {"a": "1\\skip", "b": "1\\skip\\skip"}):
            self.assertEqual(ring(Machine(text, texts=texts)), naive_ring(text, 100, texts=texts))
        self.assertNotEqual(ring(Machine(text, texts={"a": "1", "b": "2"})), ring(Machine(text, texts={"a": "1", "b": "1"})))
        # Alike texts by other names are alike.
        texts = {"a": "\\like\\y=\\skip c", "b": "\\like\\y=\\skip c"}
        text = "\\rule\\x{\\text{a}\\text{b}\\x}\\x"
        self.assertEqual(ring(Machine(text, texts=texts)), naive_ring(text, 100, texts=texts))

    def test_rows_put_together_are_one(self):
        # Behind one round what waits is one row of three pieces, or three rows of one.
        text = "\\rule\\x{\\y}\\rule\\y{\\behind\\z\\z}\\rule\\z{\\x\\skip}\\x"
        self.assertIsNone(ring(Machine(text), most=200))
        text = "\\rule\\w#1{#1}\\rule\\x{\\behind\\skip\\x}\\x"
        self.assertEqual(ring(Machine(text), most=200), naive_ring(text, 200))
        book = Book()
        book.put(("name", "x"), ("rule", (), (("name", "skip"), ("name", "y"))))
        book.put(("name", "y"), ("rule", (), (("name", "behind"), ("name", "skip"), ("name", "y"))))
        self.assertEqual(ring(Machine("\\y", book=book), most=50), naive_ring("\\y", 50, book=book))

    def test_boxes_that_come_back(self):
        for many, lead in ((1, 0), (2, 0), (3, 5), (7, 1), (20, 40), (33, 0)):
            text = counting(many, lead)
            with self.subTest(many=many, lead=lead):
                told = ring(Machine(text))
                self.assertEqual(told, naive_ring(text, 500))
                self.assertEqual(told[0], lead + 2 if many > 1 else told[0])

    def test_most(self):
        for text in (LOOP, counting(5), counting(3, 9), counting(1, 30), "abc" + LOOP, "a"):
            for most in range(60):
                with self.subTest(text=text, most=most):
                    self.assertEqual(ring(Machine(text), most=most), naive_ring(text, most))

    def test_none_of_machines_that_end(self):
        for text in ("", "abc", "a\\q", "{", "\\iflike aa", "\\rule\\x{\\x\\x}\\x"):
            self.assertIsNone(ring(Machine(text), most=5000))
            machine = Machine(text)
            machine.run(most=5000)
            self.assertIsNone(ring(machine))
        machine = Machine("a")
        machine.run(most=1)
        self.assertIsNone(ring(machine))

    def test_it_is_none_where_none_is_within_most(self):
        self.assertIsNone(ring(Machine("\\rule\\x{\\add1=1\\x}\\x")))
        self.assertIsNone(ring(Machine(LOOP), most=2))
        self.assertEqual(ring(Machine(LOOP), most=3), (2, 3))
        self.assertIsNone(ring(Machine("a" * 2000 + LOOP)))
        self.assertEqual(ring(Machine("a" * 1997 + LOOP)), (1999, 2000))
        self.assertIsNone(ring(Machine("a" * 1998 + LOOP)))
        self.assertEqual(ring(Machine("a" * 1998 + LOOP), most=2001), (2000, 2001))
        self.assertEqual(ring(Machine("a" * 4000 + LOOP), most=5000), (4002, 4003))

    def test_long_rings(self):
        text = counting(400)
        k, later = ring(Machine(text))
        self.assertEqual(k, 2)
        one, other = Machine(text), Machine(text)
        one.run(most=k)
        other.run(most=later)
        self.assertEqual((one.waiting(), one.place(), one.book(), one.asks()),
                         (other.waiting(), other.place(), other.book(), other.asks()))
        self.assertIsNone(ring(Machine(text), most=later - 1))
        self.assertEqual(ring(Machine(text), most=later), (k, later))

    def test_a_machine_with_a_ring_never_ends(self):
        for text in (LOOP, counting(7), "\\rule\\x{\\open\\set1=5\\shut\\x}\\x"):
            k, later = ring(Machine(text))
            machine = Machine(text)
            machine.run(most=k)
            told = [machine.round() for _ in range(later - k)]
            for _ in range(20):
                self.assertEqual([machine.round() for _ in range(later - k)], told)
            self.assertEqual(machine.run(most=5000), "more")

    def test_the_machine_stays(self):
        machine = Machine("ab" + LOOP)
        machine.round()
        kept = machine.twin()
        self.assertEqual(ring(machine), (3, 4))
        self.assertEqual((machine.row(), machine.place(), len(machine), machine.book()),
                         (kept.row(), kept.place(), len(kept), kept.book()))
        self.assertEqual((machine.row(), len(machine)), ([A], 1))
        self.assertEqual(ring(machine), (3, 4))

    def test_arguments(self):
        self.assertEqual(ring(most=50, machine=Machine(LOOP)), (2, 3))
        self.assertRaises(TypeError, ring, Machine(LOOP), 50)
        for thing in no_mosts():
            with self.subTest(kind=thing.__class__):
                for text in (LOOP, "a"):
                    refused_with(self, NoMost, "most", thing, ring, Machine(text), most=thing)
        self.assertEqual(ring.__module__, machine_file.__name__)
        self.assertIsInstance(ring(Machine(LOOP)), tuple)

    def test_by_trying(self):
        texts = {"a": "\\x", "b": "\\skip", "c": ""}
        bodies = ("\\x", "\\y\\x", "\\y", "{\\x", "{}\\x", "\\text{b}\\x", "\\text{c}\\text{b}\\y", "\\iflike aa\\fi\\x", "a",
                  "\\set1=\\box2 \\set2=\\box3 \\set3=\\box1 \\x", "\\behind\\x\\y", "\\rule\\x{\\y}\\x", "\\rule\\y{\\x}\\x",
                  "\\text{a}", "\\add1=1\\ifless\\box1>2 \\set1=0 \\fi\\x", "")
        for one in bodies:
            for other in bodies:
                text = "\\set3=7 \\rule\\x{" + one.replace("{\\x", "\\open\\x") + "}\\rule\\y{" + other.replace("{\\x", "\\x\\shut") + "}\\x"
                with self.subTest(text=text):
                    self.assertEqual(ring(Machine(text, texts=texts), most=40), naive_ring(text, 40, texts=texts))


if __name__ == "__main__":
    unittest.main()
