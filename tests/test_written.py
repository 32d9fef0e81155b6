"""Points 22 and 3 (g): rows written."""

import copy
import itertools
import random
import unittest

from helping import A, BLANK, MARK, OPEN, SHUT, named, row
from mouthrules import written as written_file
from mouthrules.errors import MouthError, NoWriting
from mouthrules.mouth import Mouth
from mouthrules.pieces import KINDS, first_kinds, is_row
from mouthrules.written import written

SIGNS = ["\t", "\n"] + [chr(number) for number in range(32, 127)]


def read_back(text, kinds):
    """The row of a text by the same kinds throughout."""
    mouth, told = Mouth(text), []
    while (piece := mouth.following(kinds)) is not None:
        told.append(piece)
    return told


class WrittenTest(unittest.TestCase):
    def text(self, pieces, wanted, **turned):
        kinds = first_kinds()
        for sign, kind in turned.get("kinds", {}).items():
            kinds[sign] = kind
        with self.subTest(pieces=pieces):
            self.assertEqual(written(pieces, kinds), wanted)
            self.assertEqual(read_back(wanted, kinds), pieces)

    def test_each_sort_of_piece(self):
        self.text([], "")
        self.text(row("a1.{}#"), "a1.{}#")
        self.text(row("a b"), "a\tb")
        self.text([("active", "~")], "~")
        self.text(named("\\ab", "c"), "\\ab\tc")
        self.text(named("\\ab"), "\\ab\t")
        self.text(named("\\?", "\\a", "\\A"), "\\?\\a\t\\A\t")
        self.text(named("\\?", " a"), "\\?\ta")
        self.text([("name", " "), BLANK, ("name", "\t"), ("name", "\n"), A], "\\ \t\\\t\\\na")
        self.text(named("\\\\", "\\{", "\\}", "\\!", "\\#", "\\~"), "\\\\\\{\\}\\!\\#\\~")
        self.text([("name", "a" * 30), ("letter", "b")], "\\" + "a" * 30 + "\tb")

    def test_rows_that_are_not_balanced(self):
        self.text(row("}{{"), "}{{")

    def test_other_kinds(self):
        self.text([("letter", "?"), ("other", "a"), ("open", "("), ("mark", "\n")], "?a(\n",
                  kinds={"?": "letter", "a": "other", "(": "open", "\n": "mark"})
        self.text([("name", "b?")], "\\b?\t", kinds={"?": "letter"})
        self.text([("active", "a"), ("active", " ")], "a ", kinds={"a": "active", " ": "active"})
        self.text([("name", "a"), ("letter", "b")], "\\ab", kinds={"a": "other"})
        self.text([("name", "a"), BLANK], "\\a\t", kinds={"a": "gone"})
        self.text([("name", "\\")], "\\\\")

    def test_the_least_escape_and_the_least_blank(self):
        self.text(named("\\ab"), "\tab\n", kinds={"\t": "escape"})
        self.text(named("\\ab"), "\nab\t", kinds={"\n": "escape"})
        self.text(named("\\ab"), " ab\n", kinds={" ": "escape", "\t": "other"})
        self.text(named("\\ab"), "?ab\t", kinds={"?": "escape"})
        self.text(named("\\ab"), "\\ab\t", kinds={"^": "escape", "|": "escape"})
        self.text([BLANK], " ", kinds={"\t": "other", "\n": "other"})
        self.text([BLANK], "?", kinds={"\t": "gone", "\n": "gone", " ": "gone", "?": "blank", "~": "blank"})
        self.text(named("\\ab", "c"), "\\ab?c", kinds={"\t": "gone", "\n": "gone", " ": "letter", "?": "blank"})
        kinds = {"~": "escape", "}": "escape", " ": "blank", "\n": "blank"}
        self.assertEqual(written([("name", "z"), BLANK], kinds), "}z\n")
        kinds = dict(reversed(kinds.items()))
        self.assertEqual(written([("name", "z"), BLANK], kinds), "}z\n")

    def test_it_reads_back(self):
        chance = random.Random(22)
        for _ in range(1500):
            kinds = first_kinds()
            for sign in chance.sample(SIGNS, 12):
                kinds[sign] = chance.choice(KINDS)
            text = "".join(chance.choices("ab \\\\ ?~{}#!\n\t1" + "".join(chance.sample(SIGNS, 5)), k=12)) + "."
            try:
                pieces = read_back(text, kinds)
            except RuntimeError:
                continue
            try:
                told = written(pieces, kinds)
            except NoWriting as refused:
                at = refused.number
                self.assertEqual(read_back(written(pieces[:at], kinds), kinds), pieces[:at])
                self.assertRaises(NoWriting, written, pieces[:at + 1], kinds)
                continue
            self.assertEqual(read_back(told, kinds), pieces)
            self.assertIsInstance(told, str)


class RefusedTest(unittest.TestCase):
    def refused(self, number, pieces, **kinds):
        with self.subTest(pieces=pieces):
            table = {**first_kinds(), **kinds.get("kinds", {})}
            with self.assertRaises(NoWriting) as caught:
                written(pieces, table)
            self.assertEqual(caught.exception.number, number)
            self.assertIsInstance(caught.exception.number, int)
            self.assertIsInstance(caught.exception, MouthError)
            written(pieces[:number], table)

    def test_another_kind_now(self):
        for piece in (("letter", "1"), ("other", "a"), ("open", "}"), ("shut", "{"), ("mark", "a"), ("active", "a"),
                      ("letter", " "), ("other", " "), ("other", "~"), ("other", "!"), ("letter", "\\"), ("other", "\t"),
                      ("active", "?")):
            self.refused(0, [piece])
            self.refused(2, [A, SHUT, piece, A, piece])
        self.refused(1, row("ba"), kinds={"a": "other"})
        self.refused(0, [("active", "~")], kinds={"~": "other"})
        for kind in KINDS:
            if kind != "letter":
                self.refused(0, [A], kinds={"a": kind})
            if kind != "mark":
                self.refused(3, [*row("bcd"), MARK], kinds={"#": kind})
            if kind != "open":
                self.refused(0, [OPEN], kinds={"{": kind})

    def test_no_sign_of_a_kind(self):
        no_blank = {" ": "other", "\t": "gone", "\n": "remark"}
        self.refused(1, [A, BLANK], kinds=no_blank)
        self.refused(1, [A, ("name", "ab")], kinds=no_blank)
        self.refused(1, [A, ("name", "a")], kinds=no_blank)
        table = {**first_kinds(), **no_blank}
        self.assertEqual(written([("name", "?"), A], table), "\\?a")
        no_escape = {"\\": "other"}
        self.refused(1, [A, ("name", "ab")], kinds=no_escape)
        self.refused(1, [A, ("name", "?")], kinds=no_escape)
        self.assertEqual(written([A, BLANK], {**first_kinds(), **no_escape}), "a\t")
        for piece in (BLANK, ("name", "a"), ("name", "?"), A, OPEN):
            with self.assertRaises(NoWriting):
                written([piece], {})
        self.assertEqual(written([("other", "a"), ("other", " ")], {}), "a ")

    def test_names(self):
        for name in ("a1", "1a", "a b", "ab ", "  ", "12", "a~", "??", "\\a", "a" * 29 + "?"):
            self.refused(1, [A, ("name", name), A])
        self.refused(0, [("name", "ab")], kinds={"b": "other"})
        self.refused(0, [("name", "ab")], kinds={"a": "gone", "b": "gone"})

    def test_blanks(self):
        self.refused(1, [BLANK, BLANK])
        self.refused(3, [BLANK, A, BLANK, BLANK, BLANK])
        self.refused(1, [("name", "ab"), BLANK])
        self.refused(2, [A, ("name", "a"), BLANK])
        table = first_kinds()
        self.assertEqual(written([("name", "?"), BLANK, A, BLANK], table), "\\?\ta\t")
        self.assertEqual(written([("active", "~"), BLANK, OPEN, BLANK], table), "~\t{\t")
        # A name of one sign that is a letter by the other table alone.
        self.assertEqual(written([("name", "a"), BLANK], {**table, "a": "active"}), "\\a\t")

    def test_the_first_one_is_told(self):
        bad = [("letter", "1"), ("name", "a b"), ("other", "a"), ("active", "?")]
        for pieces in itertools.permutations([A, OPEN, *bad], 4):
            first = [number for number, piece in enumerate(pieces) if piece in bad]
            if first:
                self.refused(first[0], list(pieces))


class GivenTest(unittest.TestCase):
    def test_nothing_is_changed(self):
        pieces, kinds = named("\\ab", "a b{"), first_kinds()
        kept = copy.deepcopy((pieces, kinds))
        written(pieces, kinds)
        self.assertRaises(NoWriting, written, [*pieces, ("letter", "1")], kinds)
        self.assertEqual((pieces, kinds), kept)
        self.assertTrue(is_row(pieces))

    def test_arguments_by_names(self):
        self.assertEqual(written(kinds=first_kinds(), row=[A, BLANK]), "a\t")

    def test_not_on_the_order_of_kinds(self):
        kinds = {**first_kinds(), "^": "escape", "`": "blank", "/": "escape"}
        turned = dict(reversed(kinds.items()))
        self.assertEqual(written(named("\\ab", "c d"), kinds), written(named("\\ab", "c d"), turned))

    def test_the_function_stands_in_its_file(self):
        self.assertEqual(written.__module__, written_file.__name__)


if __name__ == "__main__":
    unittest.main()
