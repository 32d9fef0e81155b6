"""Points 1, 2 and 3 over the whole program: what its parts tell of one another."""

import copy
import importlib
import itertools
import random
import unittest

from chance_texts import Texts
from helping import A, B, BLANK, MARK, OPEN, all_marks, marked, named, row, texts_of, told_or_word
from mouthrules.bench import Bench
from mouthrules.books import Book
from mouthrules.desk import Desk
from mouthrules.errors import Fault, NoWriting
from mouthrules.falls import ends_in, falls_of, parting, taken_by_falls
from mouthrules.leaning import first_parted
from mouthrules.machine import Machine, gone_through, ring
from mouthrules.mouth import Mouth
from mouthrules.pieces import first_kinds, is_balanced, kind_of
from mouthrules.plain import plain
from mouthrules.rules import filled, is_rule, rule_in
from mouthrules.taking import taken
from mouthrules.written import written

# Where each function and class of the interface is defined.
INTERFACE = {
    "errors": ("MouthError", "NoKinds", "NoSign", "NoKey", "NoWorth", "NoText", "NoTexts", "NoMost", "NoWriting", "NoRow",
               "Fault", "Ends", "Shut", "Busy", "NoName", "Bare", "TooMany"),
    "pieces": ("first_kinds", "are_kinds", "is_piece", "is_row", "is_balanced", "kind_of"),
    "mouth": ("Mouth",),
    "rules": ("is_rule", "rule_in", "filled"),
    "taking": ("taken",),
    "falls": ("falls_of", "is_falls", "taken_by_falls", "ends_in", "parting"),
    "books": ("Book",),
    "plain": ("plain",),
    "machine": ("gone_through", "ring", "Machine"),
    "leaning": ("first_parted",),
    "written": ("written",),
    "bench": ("Bench",),
    "desk": ("Desk",),
}


def pieces_of(text):
    """The row of a text by the first table."""
    mouth, told = Mouth(text), []
    while (piece := mouth.following(first_kinds())) is not None:
        told.append(piece)
    return told


class PlaceTest(unittest.TestCase):
    def test_all_stands_where_the_interface_lists_it(self):
        for file, names in INTERFACE.items():
            module = importlib.import_module("mouthrules." + file)
            for name in names:
                self.assertEqual(getattr(module, name).__module__, module.__name__)
        for file, name in (("pieces", "KINDS"), ("books", "DEEDS"), ("books", "EXCHANGED"), ("plain", "MOST")):
            self.assertTrue(hasattr(importlib.import_module("mouthrules." + file), name))
        importlib.import_module("mouthrules.gullet")


class HandsTest(unittest.TestCase):
    """Rules take in texts and in rows what taken and the tables tell."""

    def body_of(self, marks):
        hands = len([piece for piece in marks if piece[0] == "hand"])
        told = []
        for number in range(1, hands + 1):
            told.extend([("other", "("), ("hand", number), ("other", ")")])
        return tuple(told)

    def test_rules_hand_what_is_taken(self):
        chance = random.Random(3)
        choices = [marks for marks in all_marks("ab", 4) if marks]
        for _ in range(1500):
            marks = chance.choice(choices)
            pieces = row("".join(chance.choices("aab{}", k=chance.randint(0, 7))))
            body = self.body_of(marks)
            book = Book()
            book.put(("name", "x"), ("rule", marks, body))
            by_tables = told_or_word(taken_by_falls, marks, [falls_of(end) for end in ends_in(marks)], pieces)
            told = told_or_word(taken, marks, pieces)
            self.assertEqual(told, by_tables)
            come = told_or_word(gone_through, [("name", "x"), *pieces], book=book)
            if isinstance(told, str):
                self.assertEqual(come, told)
            else:
                wanted = filled(body, told[0]) + pieces[told[1]:]
                self.assertEqual(come[0] if is_balanced(wanted) else come, wanted if is_balanced(wanted) else "groups")

    def test_a_row_that_parts_marks_parts_rules(self):
        choices = all_marks("ab", 3)
        for one, other in itertools.combinations(choices, 2):
            pieces = parting(one, other)
            came = []
            for marks in (one, other):
                book = Book()
                book.put(("name", "x"), ("rule", marks, self.body_of(marks)))
                told = told_or_word(taken, marks, pieces)
                came.append((told_or_word(gone_through, [("name", "x"), *pieces], book=book), told))
            self.assertNotEqual(came[0], came[1])

    def test_rules_told_by_texts_are_those_read_of_rows(self):
        for text in ("#1 b#2.{#1\\y{#2}##}", "{}", "a{b}", "~\\x#1{#1#1}"):
            rule, many = rule_in(pieces_of(text))
            self.assertTrue(is_rule(rule))
            self.assertEqual(plain("\\rule\\?" + text)[4].worth(("name", "?")), ("rule", *rule))


class GroupsTest(unittest.TestCase):
    def test_a_group_gives_back_all(self):
        tried = 0
        for number in range(1500):
            made = Texts(random.Random(number))
            book, text, texts = made.book(), made.text(), made.texts()
            if any("\\all" in one for one in (text, *texts.values())):
                continue
            for begin, end in (("{", "}"), ("\\open ", "\\shut ")):
                told = plain(begin + text + end, book=book, texts=texts, most=80)
                # Where what ends the group is what the text ended with, it is the group's own end.
                if told[0] == "over" and not self.turns(begin + text, book, texts):
                    self.assertEqual(told[4], book, (number, text))
                    tried += 1
        self.assertGreater(tried, 100)

    def turns(self, text, book, texts):
        """Whether the group begun first ends ahead of the text's end, or an all is met some other way."""
        machine = Machine(text, book=book, texts=texts)
        for _ in range(80):
            told = machine.round()
            if told[0] in ("over", "fault"):
                break
            if len(machine) > 0 and machine.book().depth() == 0:
                return True
            if told == ("done", ("name", "all")) or told[0] == "done" and book.worth(told[1] if told[1][0] in (
                    "name", "active") else ("name", "q q")) == ("deed", "all"):
                return True
        return machine.asks() != []

    def test_what_is_set_for_all_stays(self):
        told = plain("\\set1=1 {\\set1=2 \\set2=2 {\\all\\set1=3 \\set1=4 }}")
        self.assertEqual([told[4].worth(("box", number)) for number in (1, 2)], [3, 0])


class WrittenTest(unittest.TestCase):
    def test_rows_kept_written_and_kept_again(self):
        tried = 0
        for number in range(600):
            made = Texts(random.Random(number))
            pieces = pieces_of(made.some(2, 5) + ".")
            if not is_balanced(pieces):
                continue
            try:
                text = written(pieces, first_kinds())
            except NoWriting:
                continue
            told = plain("\\keep1={" + text + "}")
            self.assertEqual(told[0], "over")
            self.assertEqual(told[4].worth(("row", 1)), pieces)
            self.assertEqual(written(told[4].worth(("row", 1)), told[4].kinds()), text)
            tried += 1
        self.assertGreater(tried, 150)

    def test_by_kinds_that_a_text_turned(self):
        book = plain("\\kind{?}{letter}\\kind{^}{escape}\\kind{(}{open}\\kind{)}{shut}\\kind{a}{active}")[4]
        pieces = [("letter", "?"), ("active", "a"), ("open", "("), ("name", "b?"), ("shut", ")"), ("name", "a"), BLANK]
        text = written(pieces, book.kinds())
        self.assertEqual(text, "?a(\\b?\t)\\a\t")
        self.assertEqual(plain("\\keep1={" + text + "}", book=book)[4].worth(("row", 1)), pieces)


class SharedTest(unittest.TestCase):
    """One book, one dict and one list are handed to many; what is told is spoilt between."""

    def spoil(self, told):
        if isinstance(told, list):
            told.append(("letter", "z"))
            told[:0] = [None]
        elif isinstance(told, dict):
            told["q"] = "spoilt"
        elif isinstance(told, tuple):
            for part in told:
                self.spoil(part)
        elif isinstance(told, Book):
            told.begin("deeds")
            told.put(("box", 1), 99)
            told.put(("row", 1), [MARK])

    def test_nothing_hangs_together(self):
        book, texts = plain("\\set1=5 \\keep1={ab}\\rule\\x{\\row1 }{\\later a")[4], {"t": "\\x"}
        pieces, leans = named("\\x", "\\text", "{t}", "\\figures", "\\box", "1 "), [("box", 1), ("text", "t")]
        marks, kinds = marked("1b"), first_kinds()
        kept = book.twin(), copy.deepcopy((texts, pieces, leans, marks, kinds))
        machine = Machine("\\x\\text{t}a}", book=book, texts=texts)
        asked = [
            lambda: plain("\\x\\text{t}}", book=book, texts=texts), lambda: gone_through(pieces, book=book, texts=texts),
            lambda: first_parted(book, Book(), leans, texts=texts, others=texts), lambda: written(row("a b"), kinds),
            lambda: taken(marks, pieces + [B]), lambda: filled(marked("11"), [pieces]), lambda: book.kinds(),
            lambda: book.worth(("row", 1)), lambda: falls_of(tuple(pieces)), lambda: ends_in(marks), lambda: machine.twin().row(),
            lambda: machine.twin().book(), lambda: kind_of(kinds, "a"), lambda: ring(machine, most=20),
            lambda: parting(marks, marked("1a")), lambda: taken_by_falls(marks, [[0]], pieces + [B]),
            lambda: Machine("ab", book=book, texts=texts).run(), lambda: Machine("ab", book=book, texts=texts).twin().book(),
            lambda: first_kinds(), lambda: rule_in(row("a{b}")),
        ]
        first = [copy.deepcopy(told_or_word(one)) for one in asked]
        for _ in range(3):
            for one, wanted in zip(asked, first):
                told = told_or_word(one)
                self.assertEqual(told, wanted)
                self.spoil(told)
        self.assertEqual((book, (texts, pieces, leans, marks, kinds)), kept)

    def test_objects_that_were_made_go_on_by_themselves(self):
        book, texts = Book(), {"t": "a"}
        machines = [Machine("\\text{t}\\set1=5 \\figures\\box1 ", book=book, texts=texts) for _ in range(3)]
        machines[0].run()
        book.put(("box", 1), 7)
        texts["t"] = "b"
        machines[1].run()
        self.assertEqual([machine.row() for machine in machines], [row("a5"), row("a5"), []])
        machines[2].run()
        self.assertEqual(machines[2].row(), row("a5"))
        bench = Bench()
        bench.put("t", "a")
        bench.texts()["t"] = "b"
        bench.read("\\set1=5 \\text{t}")[1].clear()
        bench.book().put(("box", 1), 6)
        self.assertEqual(bench.read("\\text{t}\\figures\\box1 ")[1], row("a5"))

    def test_on_the_order_of_keys_nothing_hangs(self):
        texts = {"a": "x", "b": "\\text{a}", "c": "\\text{b}"}
        turned = dict(reversed(texts.items()))
        self.assertEqual(plain("\\text{c}", texts=texts), plain("\\text{c}", texts=turned))
        self.assertEqual(gone_through(named("\\text", "{c}"), texts=texts), gone_through(named("\\text", "{c}"), texts=turned))
        one, other = Bench(), Bench()
        for name in texts:
            one.put(name, texts[name])
        for name in turned:
            other.put(name, texts[name])
        self.assertEqual(one, other)


class TogetherTest(unittest.TestCase):
    def test_bench_desk_machine_and_plain(self):
        for number in range(400):
            made = Texts(random.Random(number))
            text, texts = made.text(), made.texts()
            wanted = plain(text, texts=texts, most=60)
            machine = Machine(text, texts=texts)
            self.assertEqual((machine.run(most=60), machine.row(), machine.place(), len(machine), machine.book()), wanted)
            bench, desk = Bench(), Desk()
            desk.say("new a")
            for name, one in texts.items():
                bench.put(name, one)
                desk.say(f"put a {name} " + one.replace("\n", ";;"))
            self.assertEqual(bench.read(text, most=60), wanted[:4])
            if ";" in text:
                continue
            word = wanted[0] if wanted[0] in ("over", "more") else "fault " + wanted[0]
            signs = "".join(piece[1] for piece in wanted[1])
            self.assertEqual(desk.say("read a 60 " + text.replace("\n", ";;")), f"{word} {signs}" if signs else word)
            for key in (1, 2, 3):
                self.assertEqual(desk.say(f"box a {key}"), str(bench.book().worth(("box", key))))

    def test_what_the_program_is_for(self):
        bench = Bench()
        bench.put("lib", "\\rule\\twice#1{#1#1}!one\n\\rule\\list#1;{\\ifless\\box1<3 \\add1=1 [#1]\\list\\else .\\behind\\fi\\fi}!two\n")
        self.assertEqual(bench.read("\\text{lib}")[0], "over")
        self.assertEqual(bench.read("\\twice{ab}")[1], row("abab"))
        self.assertEqual(bench.book().worth(("name", "twice")), ("rule", marked("1"), marked("11")))
        self.assertEqual(bench.read("\\kind{<}{open}\\kind{>}{shut}\\twice<a>")[1], row("aa"))
        bench.back()
        self.assertEqual(bench.read("\\kind{?}{gone}\\twice?a")[1], row("aa"))

    def test_a_fault_is_one_wherever_it_is_met(self):
        for text, pieces in (("\\fi", named("\\fi")), ("\\figures a", named("\\figures", "a")), ("\\row256 ", named("\\row", "256 "))):
            with self.assertRaises(Fault) as caught:
                gone_through(pieces)
            self.assertEqual(plain(text)[0], caught.exception.word)

    def test_small_texts_of_all_sorts(self):
        book = Book()
        for name, worth in (("name", "a"), ("rule", (("hand", 1),), (("hand", 1), A))), (("active", "~"), ("deed", "iflike")), \
                (("name", "}"), ("deed", "fi")):
            book.put(name, worth)
        for text in texts_of("\\a{}~", 5):
            told = plain(text, book=book)
            machine = Machine("", book=book, is_open=True)
            for sign in text:
                machine.feed(sign)
                machine.run()
            machine.shut()
            self.assertEqual((machine.run(), machine.row(), machine.place(), len(machine), machine.book()), told, text)

    def test_open_pieces(self):
        self.assertEqual(plain("\\like\\x={\\x\\later a}")[1], [A])
        self.assertEqual(gone_through([("name", "x")], book=plain("\\like\\x={")[4])[0], [("name", "x")])
        self.assertEqual(told_or_word(gone_through, [OPEN]), "groups")


if __name__ == "__main__":
    unittest.main()
