"""Points 19 (rounds, run, feeding, twins) and 3 (a), and point 2 of the class Machine."""

import inspect
import unittest

from helping import (A, B, BLANK, ReadingCase, named, no_dicts_of_texts, no_mosts, no_texts_at_all, refused_with, row)
from mouthrules import machine as machine_file
from mouthrules.books import Book
from mouthrules.errors import NoMost, NoText, NoTexts, Shut
from mouthrules.machine import Machine
from mouthrules.plain import MOST, plain


def name(signs):
    return ("name", signs)


def all_rounds(machine):
    """What is told of each round up to the end, that too."""
    told = []
    while not told or told[-1][0] not in ("over", "fault"):
        told.append(machine.round())
    return told


def state(machine):
    """All that is told of a machine, but for what is told of rounds."""
    return (machine.row(), machine.place(), len(machine), machine.book(), machine.waiting(), machine.asks())


class RoundTest(ReadingCase):
    def rounds(self, text, *wanted, **more):
        with self.subTest(text=text):
            self.assertEqual(all_rounds(Machine(text, **more)), list(wanted))

    def test_what_each_round_tells(self):
        self.rounds("", ("over",))
        self.rounds("a 1", ("put", A), ("put", BLANK), ("put", ("other", "1")), ("over",))
        self.rounds("\\rule\\x{ab}\\x", ("done", name("rule")), ("exchanged", name("x")), ("put", A), ("put", B), ("over",))
        self.rounds("\\like~=a~\\skip", ("done", name("like")), ("put", A), ("done", name("skip")), ("over",))
        self.rounds("{a}", ("done", ("open", "{")), ("put", A), ("done", ("shut", "}")), ("over",))
        self.rounds("\\open\\shut", ("done", name("open")), ("done", name("shut")), ("over",))
        self.rounds("\\like\\x={\\like~=}\\x~", ("done", name("like")), ("done", name("like")), ("done", name("x")),
                    ("done", ("active", "~")), ("over",))
        self.rounds("\\iflike aa\\else b\\fi", ("exchanged", name("iflike")), ("exchanged", name("else")), ("over",))
        self.rounds("\\rule~{}~", ("done", name("rule")), ("exchanged", ("active", "~")), ("over",))
        self.rounds("\\behind ab", ("exchanged", name("behind")), ("put", A), ("put", B), ("over",))
        self.rounds("\\all\\set1=5 ", ("done", name("all")), ("over",))
        self.rounds("\\figures5 ", ("exchanged", name("figures")), ("put", ("other", "5")), ("over",))
        self.rounds("\\name q\\endname", ("exchanged", name("name")), ("done", name("q")), ("over",))
        self.rounds("\\text{t}", ("exchanged", name("text")), ("put", A), ("over",), texts={"t": "a"})
        self.rounds("{\\later a}", ("done", ("open", "{")), ("done", name("later")), ("done", ("shut", "}")), ("put", A),
                    ("over",))

    def test_faults(self):
        self.rounds("\\q", ("fault", "unknown"))
        self.rounds("a#", ("put", A), ("fault", "mark"))
        self.rounds("{", ("done", ("open", "{")), ("fault", "groups"))
        self.rounds("\\iflike aa", ("exchanged", name("iflike")), ("fault", "ask"))
        self.rounds("\\", ("fault", "ends"))

    def test_one_that_has_ended_tells_the_same(self):
        for text, told in (("", ("over",)), ("\\q", ("fault", "unknown")), ("{", ("fault", "groups"))):
            machine = Machine(text)
            last = all_rounds(machine)[-1]
            kept = state(machine)
            for _ in range(5):
                self.assertEqual(machine.round(), told)
                self.assertEqual(last, told)
                self.assertEqual(state(machine), kept)

    def test_one_at_fault_that_is_fed_tells_the_same(self):
        machine = Machine("a\\q ", is_open=True)
        machine.feed("b")
        self.assertEqual(machine.run(), "unknown")
        machine.feed("c")
        self.assertEqual((machine.round(), machine.run(), machine.row()), (("fault", "unknown"), "unknown", [A]))


class RunTest(ReadingCase):
    def test_it_tells_the_word(self):
        for text in ("", "ab", "\\q", "{", "\\iflike aa", "a\\fi"):
            self.assertEqual(Machine(text).run(), plain(text)[0])

    def test_most(self):
        machine = Machine("abc")
        self.assertEqual(machine.run(most=0), "more")
        self.assertEqual((machine.run(most=2), machine.row(), len(machine)), ("more", [A, B], 2))
        self.assertEqual((machine.run(most=1), len(machine)), ("more", 3))
        self.assertEqual(machine.run(most=0), "more")
        self.assertEqual((machine.run(most=1), len(machine)), ("over", 3))
        self.assertEqual(machine.run(most=0), "over")
        self.assertEqual(machine.run(most=5000), "over")
        self.assertEqual(Machine("").run(most=0), "more")
        self.assertEqual(Machine("\\q").run(most=0), "more")
        machine = Machine("\\q")
        self.assertEqual((machine.run(most=1), machine.run(most=0)), ("unknown", "unknown"))

    def test_most_by_default(self):
        machine = Machine("a" * 4500)
        self.assertEqual((machine.run(), len(machine)), ("more", 2000))
        self.assertEqual((machine.run(), len(machine)), ("more", 4000))
        self.assertEqual((machine.run(), len(machine)), ("over", 4500))
        machine = Machine("a" * 6000)
        self.assertEqual((machine.run(most=5000), len(machine)), ("more", 5000))

    def test_no_mosts(self):
        machine = Machine("ab")
        ended = Machine("")
        ended.run()
        for thing in no_mosts():
            with self.subTest(kind=thing.__class__):
                for one in (machine, ended):
                    refused_with(self, NoMost, "most", thing, one.run, most=thing)
        self.assertEqual(state(machine), state(Machine("ab")))
        self.assertRaises(TypeError, machine.run, 5)

    def test_runs_and_rounds_go_on_from_one_another(self):
        machine = Machine("abc")
        self.assertEqual(machine.round(), ("put", A))
        self.assertEqual(machine.run(most=1), "more")
        self.assertEqual(machine.round(), ("put", ("letter", "c")))
        self.assertEqual(machine.run(most=1), "over")


class ToldTest(unittest.TestCase):
    TEXTS = {"a": "1\\x2", "b": "\\text{a}3"}

    def test_behind_each_round(self):
        machine = Machine("\\rule\\x{p\\y}\\rule\\y{qr}\\text{b}\\iflike aa.\\else\\fi", texts=self.TEXTS)
        told = []
        while machine.round() != ("over",):
            told.append((machine.place(), machine.waiting(), machine.asks(), len(machine)))
        whole = len("\\rule\\x{p\\y}\\rule\\y{qr}")
        ahead = whole + 8
        wanted = [((12,), [], []), ((whole,), [], []), ((ahead, 0), [], []), ((ahead, 8, 0), [], []),
                  ((ahead, 8, 1), [], []), ((ahead, 8, 3), named("p\\y"[:1], "\\y"), []), ((ahead, 8, 3), named("\\y"), []),
                  ((ahead, 8, 3), row("qr"), []), ((ahead, 8, 3), row("r"), []), ((ahead, 8, 3), [], []),
                  ((ahead, 8, 4), [], []), ((ahead, 9), [], []), ((ahead + 10,), [], ["so"]), ((ahead + 11,), [], ["so"]),
                  ((ahead + 19,), [], [])]
        self.assertEqual(told, [(*one, number) for number, one in enumerate(wanted, 1)])

    def test_waiting_is_ahead_of_the_last_text_alone(self):
        machine = Machine("\\rule\\x{\\text{t}b}\\x", texts={"t": "a"})
        told = [(machine.waiting(), machine.place())]
        while machine.round() != ("over",):
            told.append((machine.waiting(), machine.place()))
        self.assertEqual(told, [([], (0,)), ([], (18,)), (named("\\text", "{t}b"), (20,)), ([], (20, 0)), ([], (20, 1)),
                                ([], (20,))])

    def test_rows_that_wait_on_one_another_are_one(self):
        machine = Machine("\\rule\\x{\\y b}\\rule\\y{\\z a}\\rule\\z{1}\\x")
        machine.run(most=6)
        self.assertEqual(machine.waiting(), row("1ab"))

    def test_asks(self):
        machine = Machine("\\iflike aa\\iflike ab\\else\\iflike aa\\else\\fi\\fi\\fi")
        told = []
        while machine.round() != ("over",):
            told.append(machine.asks())
        self.assertEqual(told, [["so"], ["so", "else"], ["so", "else", "so"], ["so", "else"], ["so"], []])
        machine = Machine("\\ifless\\iflike aa1<2 ")
        machine.round()
        self.assertEqual(machine.asks(), ["so", "so"])

    def test_book_and_row(self):
        machine = Machine("a\\set1=5 {\\set1=6 b")
        machine.run()
        self.assertEqual(machine.row(), [A, B])
        self.assertEqual((machine.book().worth(("box", 1)), machine.book().depth()), (6, 1))

    def test_what_is_told_is_the_askers_own(self):
        machine = Machine("\\rule\\x{ab}\\iflike aa\\x{", texts={"a": "b"})
        machine.run(most=4)
        kept = state(machine)
        for told in (machine.row(), machine.waiting(), machine.asks()):
            told.append("x")
            told[:0] = ["y"]
        machine.book().begin("signs")
        machine.book().put(("box", 1), 5)
        self.assertEqual(state(machine), kept)
        machine.row().clear()
        machine.waiting().clear()
        machine.asks().clear()
        self.assertEqual(state(machine), kept)
        self.assertEqual([told.__class__ for told in state(machine)], [list, tuple, int, Book, list, list])

    def test_at_a_fault_all_is_as_ahead(self):
        for text in ("ab\\set1=\\name q\\endname", "{\\iflike aa\\text{t}", "\\rule\\x#1{}\\text{t}\\x", "a\\later",
                     "{{a", "\\iflike aa b", "\\row\\name q\\endname5", "\\set1=5 \\add1=\\figures\\box1 \\name q\\endname\\fi"):
            machine = Machine(text, texts={"t": "a"})
            kept = state(machine)
            told = machine.round()
            while told[0] not in ("fault", "over"):
                kept, told = state(machine), machine.round()
            with self.subTest(text=text):
                self.assertEqual(told[0], "fault")
                self.assertEqual(state(machine), kept)

    def test_over(self):
        machine = Machine("a\\text{t}!r", texts={"t": "b!s"})
        machine.run()
        self.assertEqual(state(machine), ([A, B], (11,), 3, Book(), [], []))


class FeedTest(ReadingCase):
    TEXT = ("\\rule\\x#1.{[#1]}\\x ab. \\set1=-12 !r\n\\figures\\box1  \\iflike aa\\text{t}\\else b\\fi"
            "{\\later c\\kind{?}{gone}?}?\\name q\\endname  ~")

    def rounds_fed(self, text, portions, **more):
        """What rounds tell, but for more, of a machine that gets a portion wherever it tells more."""
        machine, told, portions = Machine("", is_open=True, **more), [], list(portions)
        while not told or told[-1][0] not in ("over", "fault"):
            kept = state(machine)
            one = machine.round()
            if one != ("more",):
                told.append(one)
                continue
            self.assertEqual(state(machine), kept)
            if portions:
                self.assertIsNone(machine.feed(portions.pop(0)))
            else:
                self.assertIsNone(machine.shut())
        return told, state(machine)

    def test_portions_of_every_length(self):
        for text in (self.TEXT, self.TEXT + "\\", "a\\q", "\\figures12", "\\iflike ab", "a!r", "{", "", "  ", "\\set1=\\", "\\abc"):
            at_once = Machine(text, texts={"t": "m\\x n"})
            wanted = (all_rounds(at_once), state(at_once))
            for many in range(1, len(text) + 2):
                portions = [text[at:at + many] for at in range(0, len(text), many)]
                self.assertEqual(self.rounds_fed(text, portions, texts={"t": "m\\x n"}), wanted, (text, many))
            word, told, place, rounds, book = plain(text, texts={"t": "m\\x n"})
            self.assertEqual(wanted[1][:4], (told, place, rounds, book))
            self.assertEqual(wanted[0][-1][-1], word)

    def test_two_portions_cut_everywhere(self):
        at_once = Machine(self.TEXT, texts={"t": "m"})
        wanted = (all_rounds(at_once), state(at_once))
        for cut in range(len(self.TEXT) + 1):
            self.assertEqual(self.rounds_fed(self.TEXT, [self.TEXT[:cut], "", self.TEXT[cut:]], texts={"t": "m"}), wanted)

    def test_all_fed_ahead(self):
        machine = Machine("", is_open=True, texts={"t": "m"})
        for sign in self.TEXT:
            machine.feed(sign)
        machine.shut()
        at_once = Machine(self.TEXT, texts={"t": "m"})
        self.assertEqual((all_rounds(machine), state(machine)), (all_rounds(at_once), state(at_once)))

    def test_where_more_is_needed(self):
        for text, rounds in (("", 0), ("a", 1), ("ab", 2), ("a ", 1), ("\\skip", 0), ("\\skip ", 0), ("\\skip a", 2), ("\\", 0),
                             ("!a", 0), ("\\figures1", 0), ("\\figures1 ", 0), ("\\figures1 a", 3), ("\\figures1a", 3), ("\\set1=5", 0), ("\\later", 0),
                             ("\\iflike ab\\else", 0), ("\\iflike ab\\fi ", 0), ("\\rule\\?{a", 0), ("\\rule\\?{a}", 1),
                             ("\\rule\\?{a}\\?", 3), ("\\kind{a}{gone}a", 1), ("\\set1=5\\text{t}", 2), ("\\set1=5\\text{u}", 0), ("{", 1)):
            machine = Machine(text, is_open=True, texts={"t": "7 \\skip", "u": "7"})
            with self.subTest(text=text):
                self.assertEqual((machine.run(), len(machine)), ("more", rounds))
                kept = state(machine)
                self.assertEqual((machine.round(), machine.round(), machine.run(most=0)), (("more",), ("more",), "more"))
                self.assertEqual(state(machine), kept)

    def test_it_is_the_end_where_it_is_shut(self):
        machine = Machine("a", is_open=True)
        self.assertEqual(machine.run(), "more")
        machine.shut()
        self.assertEqual(machine.run(), "over")
        machine = Machine("{", is_open=True)
        self.assertEqual(machine.run(), "more")
        machine.shut()
        self.assertEqual(machine.run(), "groups")

    def test_faults_that_show(self):
        for text, word in (("\\q ", "more"), ("\\q a", "unknown"), ("}", "groups"), ("#", "mark"), ("\\set1=a", "number"),
                           ("\\?", "unknown"), ("\\rule a", "marks")):
            self.assertEqual(Machine(text, is_open=True).run(), word)

    def test_shut(self):
        machine = Machine("a")
        self.assertRaises(Shut, machine.feed, "b")
        self.assertIsNone(machine.shut())
        self.assertRaises(Shut, machine.feed, "")
        self.assertEqual(state(machine), state(Machine("a")))
        machine = Machine("a", is_open=True)
        machine.feed(text="b")
        machine.shut()
        machine.shut()
        self.assertRaises(Shut, machine.feed, "c")
        self.assertEqual((machine.run(), machine.row()), ("over", [A, B]))
        self.assertRaises(Shut, machine.feed, "c")

    def test_the_first_text_alone(self):
        machine = Machine("\\text{t}", is_open=True, texts={"t": "a\\skip"})
        self.assertEqual([machine.round() for _ in range(4)],
                         [("exchanged", name("text")), ("put", A), ("done", name("skip")), ("more",)])
        self.assertEqual(machine.place(), (8, 6))
        machine.feed("b")
        self.assertEqual((machine.round(), machine.place()), (("put", B), (9,)))

    def test_kinds_turn_ahead_of_what_is_fed(self):
        machine = Machine("\\kind{?}{gone}", is_open=True)
        machine.run()
        machine.feed("?a?")
        self.assertEqual((machine.run(), machine.row(), machine.place()), ("more", [A], (16,)))


class TwinTest(unittest.TestCase):
    TEXT = "\\rule\\x{a\\text{t}b}\\iflike aa\\x{\\set1=5 \\later a\\else\\fi}"

    def test_it_goes_on_by_itself(self):
        machine = Machine(self.TEXT, texts={"t": "\\x1"})
        for many in range(12):
            twin, other = machine.twin(), machine.twin()
            kept = state(machine)
            self.assertIsInstance(twin, Machine)
            self.assertEqual(state(twin), kept)
            told = twin.round()
            self.assertEqual(state(machine), kept)
            self.assertEqual(state(other), kept)
            twin.run()
            self.assertEqual(state(machine), kept)
            self.assertEqual(machine.round(), told)

    def test_of_open_ones(self):
        machine = Machine("a", is_open=True)
        twin = machine.twin()
        machine.feed("b")
        twin.feed("c")
        twin.shut()
        self.assertEqual((machine.run(), machine.row()), ("more", [A, B]))
        self.assertEqual((twin.run(), twin.row()), ("over", row("ac")))
        machine.feed("d")
        self.assertRaises(Shut, twin.feed, "d")

    def test_of_ended_ones(self):
        for text, word in (("a", "over"), ("a\\q", "unknown")):
            machine = Machine(text)
            machine.run()
            twin = machine.twin()
            self.assertEqual((twin.run(most=0), twin.round(), state(twin)), (word, machine.round(), state(machine)))


class GivenTest(unittest.TestCase):
    def test_refusals(self):
        for thing in no_texts_at_all():
            with self.subTest(kind=thing.__class__):
                refused_with(self, NoText, "thing", thing, Machine, thing)
                refused_with(self, NoText, "thing", thing, Machine, texts=5, text=thing)
        for thing in no_dicts_of_texts():
            with self.subTest(kind=thing.__class__):
                refused_with(self, NoTexts, "thing", thing, Machine, "a", texts=thing)

    def test_it_keeps_its_own(self):
        book, texts = Book(), {"t": "a"}
        machine = Machine("\\text{t}\\figures\\box1 \\text{t}\\set1=9 ", book=book, texts=texts)
        machine.round()
        book.put(("box", 1), 5)
        book.put(("kind", "a"), "gone")
        texts["t"] = "c"
        machine.round()
        texts.clear()
        self.assertEqual((machine.run(), machine.row()), ("over", row("a0a")))
        self.assertEqual(book.worth(("box", 1)), 5)

    def test_arguments_by_names(self):
        machine = Machine(is_open=True, texts={"t": "a"}, book=None, text="\\text{t}")
        self.assertEqual(machine.run(most=2), "more")
        self.assertRaises(TypeError, Machine, "a", Book())
        told = inspect.signature(Machine.run)
        self.assertEqual(told.parameters["most"].default, MOST)

    def test_the_class_has_its_methods_itself(self):
        self.assertEqual(Machine.__module__, machine_file.__name__)
        for method in ("__init__", "round", "run", "feed", "shut", "row", "waiting", "asks", "place", "book", "twin", "__len__"):
            self.assertIn(method, vars(Machine))


if __name__ == "__main__":
    unittest.main()
