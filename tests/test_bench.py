"""Point 23, and point 2 of mouthrules/bench.py."""

import copy
import inspect
import unittest

from helping import A, B, no_mosts, no_texts_at_all, odd_things, refused_with, row
from mouthrules import bench as bench_file
from mouthrules.bench import Bench
from mouthrules.books import Book
from mouthrules.errors import Bare, Busy, Fault, NoMost, NoName, NoText
from mouthrules.machine import Machine
from mouthrules.plain import MOST, plain

TEXTS = ("", "a", "\\set1=5 ", "\\q", "{", "\\rule\\x{ab}\\x", "\\text{t}", "\\iflike aa", "a#", "\\text{t}\\text{u}",
         "\\rule\\x{\\x}\\x", "\\kind{a}{gone}a", "\\figures\\box1 ", "\\x")


def no_names():
    """Things that are no names of texts."""
    told = [thing for thing in odd_things() if not isinstance(thing, str)]
    return told + [None, 0, 1, True, "", "A", "a1", "a b", " a", "a ", "abcdefghi", "\u00e4", "a\n", ("a",), ["a"], {"a": "b"},
                   b"a", "-", "aB"]


def state(bench):
    return bench.book(), bench.texts(), bench.log(), len(bench)


class ReadTest(unittest.TestCase):
    def test_it_tells_what_plain_tells(self):
        for text in TEXTS:
            for most in (0, 1, 2, 3, 60):
                bench = Bench()
                bench.put("t", "a\\set2=7 ")
                bench.read("\\set1=3 \\like\\x=b")
                book, texts = bench.book(), bench.texts()
                with self.subTest(text=text, most=most):
                    told = bench.read(text, most=most)
                    wanted = plain(text, book=book, texts=texts, most=most)
                    self.assertEqual(told, wanted[:4])
                    self.assertIsInstance(told, tuple)
                    self.assertEqual(bench.book(), wanted[4] if told[0] == "over" else book)
                    self.assertEqual(bench.texts(), texts)
                    self.assertEqual(len(bench), 2 if told[0] == "over" else 1)

    def test_the_book_is_kept_where_it_is_over_alone(self):
        bench = Bench()
        self.assertEqual(bench.book(), Book())
        bench.read("\\set1=5 ")
        self.assertEqual(bench.book().worth(("box", 1)), 5)
        for text, most, word in (("\\set1=6 {", 2000, "groups"), ("\\set1=6 \\q", 2000, "unknown"), ("\\set1=6 a", 1, "more"),
                                 ("\\set1=6 a", 2, "more"), ("\\set1=6 \\iflike aa", 2000, "ask")):
            self.assertEqual(bench.read(text, most=most)[0], word)
            self.assertEqual((bench.book().worth(("box", 1)), len(bench)), (5, 1))
        self.assertEqual(bench.read("\\set1=6 a", most=3)[0], "over")
        self.assertEqual((bench.book().worth(("box", 1)), len(bench)), (6, 2))

    def test_readings_go_on_from_one_another(self):
        bench = Bench()
        bench.read("\\rule\\x#1{[#1]}")
        bench.read("\\kind{?}{gone}")
        self.assertEqual(bench.read("\\x a?"), ("over", row("[a]"), (5,), 4))

    def test_most(self):
        bench = Bench()
        self.assertEqual(bench.read("a" * 2500)[::3], ("more", 2000))
        self.assertEqual(bench.read("a" * 2500, most=5000)[::3], ("over", 2500))
        self.assertEqual(bench.read("", most=0), ("more", [], (0,), 0))
        self.assertEqual(bench.read("", most=1), ("over", [], (0,), 0))
        self.assertEqual(inspect.signature(Bench.read).parameters["most"].default, MOST)

    def test_refusals(self):
        bench = Bench()
        bench.put("a", "b")
        bench.read("\\set1=5 ")
        kept = state(bench)
        watched = []
        for thing in no_texts_at_all():
            with self.subTest(kind=thing.__class__):
                refused_with(self, NoText, "thing", thing, bench.read, thing)
                refused_with(self, NoText, "thing", thing, bench.read, most=True, text=thing, watcher=watched.append)
        for thing in no_mosts():
            with self.subTest(kind=thing.__class__):
                refused_with(self, NoMost, "most", thing, bench.read, "a", most=thing)
                refused_with(self, NoMost, "most", thing, bench.read, "\\q", most=thing, watcher=watched.append)
        self.assertEqual((state(bench), watched), (kept, []))

    def test_arguments_by_names(self):
        bench, watched = Bench(), []
        self.assertEqual(bench.read(watcher=watched.append, most=1, text="ab"), ("more", [A], (1,), 1))
        self.assertEqual(watched, [("put", A)])
        self.assertRaises(TypeError, bench.read, "a", 5)
        bench.put(text="x", name="a")
        self.assertEqual(bench.texts(), {"a": "x"})
        bench.drop(name="a")
        self.assertEqual(bench.read("a", watcher=None), ("over", [A], (1,), 1))


class TextsTest(unittest.TestCase):
    def test_put_and_drop(self):
        bench = Bench()
        self.assertEqual(bench.texts(), {})
        self.assertIsNone(bench.put("a", "x"))
        bench.put("abcdefgh", "")
        self.assertEqual(bench.texts(), {"a": "x", "abcdefgh": ""})
        self.assertEqual(bench.read("\\text{a}")[1], row("x"))
        bench.put("a", "\\text{abcdefgh}y")
        self.assertEqual(bench.texts(), {"a": "\\text{abcdefgh}y", "abcdefgh": ""})
        self.assertEqual(bench.read("\\text{a}")[1], row("y"))
        self.assertIsNone(bench.drop("abcdefgh"))
        self.assertEqual(bench.texts(), {"a": "\\text{abcdefgh}y"})
        self.assertEqual(bench.read("\\text{a}")[0], "text")
        bench.drop("a")
        self.assertEqual((bench.texts(), len(bench), bench.log()), ({}, 2, ["begin", "end"] * 3))

    def test_no_names(self):
        bench = Bench()
        bench.put("a", "x")
        kept = state(bench)
        for thing in no_names():
            with self.subTest(kind=thing.__class__):
                refused_with(self, NoName, "name", thing, bench.put, thing, "x")
                refused_with(self, NoName, "name", thing, bench.put, thing, None)
                refused_with(self, NoName, "name", thing, bench.put, text=5, name=thing)
                refused_with(self, NoName, "name", thing, bench.drop, thing)
        for thing in ("b", "ab", "abcdefgh"):
            refused_with(self, NoName, "name", thing, bench.drop, thing)
        for thing in no_texts_at_all():
            with self.subTest(kind=thing.__class__):
                refused_with(self, NoText, "thing", thing, bench.put, "a", thing)
                refused_with(self, NoText, "thing", thing, bench.put, "b", thing)
        self.assertEqual(state(bench), kept)


class BackTest(unittest.TestCase):
    def test_one_more_each_time(self):
        bench, books = Bench(), []
        for number in range(4):
            books.append(bench.book())
            bench.read(f"\\set1={number + 5} ")
            bench.read("\\set1=77 \\q")
        self.assertEqual(len(bench), 4)
        for number in (3, 2, 1, 0):
            self.assertIsNone(bench.back())
            self.assertEqual((bench.book(), len(bench)), (books[number], number))
        self.assertRaises(Bare, bench.back)
        self.assertEqual((bench.book(), len(bench)), (Book(), 0))

    def test_texts_and_the_log_stay(self):
        bench = Bench()
        bench.put("a", "x")
        bench.read("\\set1=5 ")
        bench.put("b", "y")
        bench.drop("a")
        log = bench.log()
        bench.back()
        self.assertEqual((bench.texts(), bench.log(), bench.book()), ({"b": "y"}, log, Book()))

    def test_readings_that_change_nothing_count(self):
        bench = Bench()
        bench.read("a")
        bench.read("")
        self.assertEqual(len(bench), 2)
        bench.back()
        bench.back()
        self.assertRaises(Bare, bench.back)

    def test_it_goes_on_from_there(self):
        bench = Bench()
        bench.read("\\set1=5 ")
        bench.read("\\set1=6 ")
        bench.back()
        bench.read("\\add1=1 ")
        self.assertEqual((bench.book().worth(("box", 1)), len(bench)), (6, 2))
        bench.back()
        self.assertEqual((bench.book().worth(("box", 1)), len(bench)), (5, 1))

    def test_none_is_left(self):
        bench = Bench()
        self.assertRaises(Bare, bench.back)
        bench.read("\\q")
        bench.read("a", most=1)
        self.assertRaises(Bare, bench.back)
        self.assertFalse(issubclass(Bare, KeyError))


class LogTest(unittest.TestCase):
    def test_begin_and_end(self):
        bench = Bench()
        self.assertEqual(bench.log(), [])
        for number, (text, most) in enumerate((("", 1), ("a", 0), ("\\q", 5), ("{", 5)), 1):
            bench.read(text, most=most)
            self.assertEqual(bench.log(), ["begin", "end"] * number)
        for asked in (lambda: bench.read(None), lambda: bench.read("a", most=-1), lambda: bench.put("A", ""),
                      lambda: bench.drop("q"), lambda: Bench().back()):
            self.assertRaises(Exception, asked)
        bench.put("a", "b")
        bench.drop("a")
        bench.back()
        self.assertEqual(bench.log(), ["begin", "end"] * 4)

    def test_within_and_behind_what_a_watcher_raises(self):
        bench, logs = Bench(), []

        def watcher(told):
            logs.append(bench.log())
            self.assertRaises(Busy, bench.read, "a")
            self.assertEqual(bench.log(), logs[-1])
            if len(logs) == 2:
                raise ArithmeticError("told")
        self.assertRaises(ArithmeticError, bench.read, "abc", watcher=watcher)
        self.assertEqual(logs, [["begin"], ["begin"]])
        self.assertEqual(bench.log(), ["begin", "end"])


class WatcherTest(unittest.TestCase):
    def test_it_is_told_rounds(self):
        for text in TEXTS:
            for most in (0, 1, 3, 60):
                machine, wanted = Machine(text, texts={"t": "a"}), []
                while len(wanted) < most:
                    told = machine.round()
                    if told[0] in ("over", "fault"):
                        break
                    wanted.append(told)
                bench, watched = Bench(), []
                bench.put("t", "a")
                told = bench.read(text, most=most, watcher=lambda told: watched.append(told))
                with self.subTest(text=text, most=most):
                    self.assertEqual(watched, wanted)
                    self.assertEqual(told[3], len(watched))

    def test_what_it_tells_is_let_go(self):
        bench = Bench()
        self.assertEqual(bench.read("ab", watcher=lambda told: "stop"), ("over", [A, B], (2,), 2))

    def test_the_book_is_kept_behind_all_rounds(self):
        bench, told = Bench(), []
        bench.read("\\set1=5 ")
        bench.read("\\set1=6 a", watcher=lambda one: told.append((one, bench.book().worth(("box", 1)), len(bench))))
        self.assertEqual(told, [(("done", ("name", "set")), 5, 1), (("put", A), 5, 1)])
        self.assertEqual((bench.book().worth(("box", 1)), len(bench)), (6, 2))

    def test_busy(self):
        bench, told = Bench(), []
        bench.put("a", "x")
        bench.read("\\set1=5 ")

        def watcher(one):
            kept = state(bench)
            for asked in (lambda: bench.read("a"), lambda: bench.put("b", "y"), lambda: bench.drop("a"), bench.back,
                          # Also where it is asked amiss.
                          lambda: bench.read(None), lambda: bench.read("a", most=-1), lambda: bench.put("B", "y"),
                          lambda: bench.put("b", None), lambda: bench.put([], 5), lambda: bench.drop("q"), lambda: bench.drop([])):
                with self.assertRaises(Busy):
                    asked()
            self.assertEqual(state(bench), kept)
            told.append(one)
        self.assertEqual(bench.read("\\text{a}b", watcher=watcher)[:2], ("over", row("xb")))
        self.assertEqual(len(told), 3)
        # Behind it it is busy no more.
        bench.put("b", "y")
        bench.drop("a")
        bench.back()
        self.assertEqual(bench.read("\\text{b}")[1], row("y"))

    def test_bare_benches_are_busy_too(self):
        bench, told = Bench(), []

        def watcher(one):
            self.assertRaises(Busy, bench.back)
            told.append(one)
        bench.read("a", watcher=watcher)
        self.assertEqual(told, [("put", A)])
        self.assertEqual(len(bench), 1)

    def test_what_it_raises_goes_on(self):
        class Own(Exception):
            pass
        for made in (Own, ArithmeticError, Fault, Busy, KeyError, KeyboardInterrupt, SystemExit, StopIteration):
            bench = Bench()
            bench.put("a", "x")
            bench.read("\\set1=5 ")
            book, texts = bench.book(), bench.texts()
            raised = made("told")

            def watcher(one):
                raise raised
            for text in ("\\set1=6 b", "a", "{"):
                with self.subTest(made=made, text=text):
                    with self.assertRaises(made) as caught:
                        bench.read(text, watcher=watcher)
                    self.assertIs(caught.exception, raised)
                    self.assertEqual((bench.book(), bench.texts(), len(bench)), (book, texts, 1))
            self.assertEqual(bench.log(), ["begin", "end"] * 4)
            # It is busy no more.
            bench.put("b", "y")
            self.assertEqual(bench.read("\\figures\\box1 ")[1], row("5"))
            bench.back()
            bench.back()
            self.assertEqual(bench.book(), Book())

    def test_one_that_asks_amiss_and_lets_it_go_on(self):
        bench = Bench()
        self.assertRaises(Busy, bench.read, "ab", watcher=lambda one: bench.read("c"))
        self.assertEqual((bench.read("ab")[0], len(bench)), ("over", 1))

    def test_another_bench_is_not_busy(self):
        bench, other = Bench(), Bench()
        bench.read("ab", watcher=lambda one: other.read("\\add1=1 "))
        self.assertEqual((other.book().worth(("box", 1)), len(other), len(bench)), (2, 2, 1))

    def test_a_round_at_fault_is_not_told(self):
        watched = []
        self.assertEqual(Bench().read("a\\q", watcher=watched.append)[0], "unknown")
        self.assertEqual(Bench().read("", watcher=watched.append)[0], "over")
        self.assertEqual(Bench().read("{", watcher=watched.append)[0], "groups")
        self.assertEqual(watched, [("put", A), ("done", ("open", "{"))])


class TwinTest(unittest.TestCase):
    def made(self):
        bench = Bench()
        bench.put("a", "x")
        bench.read("\\set1=5 ")
        bench.read("\\set1=6 ")
        bench.read("\\q")
        return bench

    def test_it_has_the_same(self):
        bench = self.made()
        twin = bench.twin()
        self.assertIsInstance(twin, Bench)
        self.assertEqual(state(twin), state(bench))
        self.assertEqual(twin, bench)
        twin.back()
        self.assertEqual(twin.book().worth(("box", 1)), 5)
        twin.back()
        self.assertEqual(twin.book(), Book())
        self.assertRaises(Bare, twin.back)

    def test_it_goes_on_by_itself(self):
        for turned in (False, True):
            bench = self.made()
            twin = bench.twin()
            one, other = (twin, bench) if turned else (bench, twin)
            kept = state(other)
            one.put("a", "y")
            one.put("b", "z")
            one.read("\\set1=7 \\kind{a}{gone}")
            one.back()
            one.back()
            one.drop("b")
            self.assertEqual(state(other), kept)
            other.back()
            self.assertEqual(other.book().worth(("box", 1)), 5)

    def test_one_made_within_a_watcher(self):
        bench, twins = self.made(), []

        def watcher(one):
            twin = bench.twin()
            twins.append(twin)
            self.assertEqual(twin.log(), bench.log())
            self.assertEqual(twin.log()[-1], "begin")
            self.assertEqual(twin.read("\\set1=9 ")[0], "over")
            twin.put("c", "d")
            twin.drop("a")
            self.assertRaises(Busy, bench.read, "a")
        bench.read("ab", watcher=watcher)
        self.assertEqual(len(twins), 2)
        for twin in twins:
            self.assertEqual((twin.book().worth(("box", 1)), twin.texts(), len(twin)), (9, {"c": "d"}, 3))
            self.assertEqual(twin.log(), ["begin", "end"] * 3 + ["begin", "begin", "end"])
            twin.back()
            self.assertEqual(twin.book().worth(("box", 1)), 6)
        self.assertEqual(bench.texts(), {"a": "x"})


class AlikeTest(unittest.TestCase):
    def test_books_and_texts(self):
        one, other = Bench(), Bench()
        self.assertIs(one == other, True)
        self.assertIs(one != other, False)
        one.put("a", "x")
        self.assertIs(one == other, False)
        self.assertIs(one != other, True)
        other.put("a", "y")
        self.assertNotEqual(one, other)
        other.put("a", "x")
        self.assertEqual(one, other)
        one.read("\\set1=5 ")
        self.assertNotEqual(one, other)
        one.back()
        self.assertEqual(one, other)

    def test_kept_readings_and_logs_do_not_count(self):
        one, other = Bench(), Bench()
        one.read("a")
        one.read("\\q")
        self.assertEqual(one, other)
        one.read("\\set1=5 ")
        other.read("\\set1=4 \\add1=1 ")
        self.assertEqual(one, other)

    def test_what_is_no_bench_is_like_none(self):
        bench = Bench()
        for thing in odd_things() + [None, 0, Book(), (Book(), {}), Bench, bench.twin]:
            self.assertIs(bench == thing, False)
            self.assertIs(bench != thing, True)


class GivenTest(unittest.TestCase):
    def test_what_is_told_is_the_askers_own(self):
        bench = Bench()
        bench.put("a", "x")
        told = bench.read("a\\set1=5 ")
        kept = copy.deepcopy(bench.texts()), bench.log(), bench.book()
        told[1].append(B)
        bench.texts()["b"] = "y"
        bench.texts().clear()
        bench.log().append("more")
        bench.book().begin("signs")
        bench.book().put(("box", 1), 6)
        self.assertEqual((bench.texts(), bench.log(), bench.book()), kept)
        bench.back()
        bench.book().put(("box", 1), 6)
        self.assertEqual(bench.book(), Book())

    def test_the_class_has_its_methods_itself(self):
        self.assertEqual(Bench.__module__, bench_file.__name__)
        for method in ("__init__", "read", "put", "drop", "back", "book", "texts", "log", "twin", "__eq__", "__len__"):
            self.assertIn(method, vars(Bench))


if __name__ == "__main__":
    unittest.main()
