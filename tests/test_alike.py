"""Points 3 (a), (b), (c) and (i), by texts made by chance: plain, the machine and rows gone through are held against
what the points say told once more, by calls within calls."""

import itertools
import random
import re
import sys
import unittest

from chance_texts import Texts
from helping import told_or_word
from mouthrules.books import DEEDS, Book
from mouthrules.errors import Ends
from mouthrules.machine import Machine, gone_through, ring
from mouthrules.mouth import Mouth
from mouthrules.plain import plain
from naive import naive_gone_through, naive_plain, naive_ring

MOST = 50


def rounds_of(machine):
    told = []
    while len(told) < MOST and (not told or told[-1][0] not in ("over", "fault")):
        told.append(machine.round())
    return told


def rounds_fed(machine, text, chance):
    """What rounds tell, but for more, of an open machine that is fed by portions of chance."""
    told = []
    while len(told) < MOST and (not told or told[-1][0] not in ("over", "fault")):
        one = machine.round()
        if one != ("more",):
            told.append(one)
        elif text:
            many = chance.randint(1, 4)
            machine.feed(text[:many])
            text = text[many:]
        else:
            machine.shut()
    return told


def pieces_of(text, kinds):
    """The pieces of a text, by the same kinds throughout, up to an escape at its end."""
    mouth, told = Mouth(text), []
    try:
        while (piece := mouth.following(kinds)) is not None:
            told.append(piece)
    except Ends:
        pass
    return told


class ByChanceTest(unittest.TestCase):
    def setUp(self):
        self.limit = sys.getrecursionlimit()
        sys.setrecursionlimit(10000)

    def tearDown(self):
        sys.setrecursionlimit(self.limit)

    def test_plain_and_the_machine(self):
        for number in range(2500):
            made = Texts(random.Random(number))
            text, texts = made.text(), made.texts()
            book = made.book() if number % 3 else Book()
            wanted, rounds = naive_plain(text, book=book, texts=texts, most=MOST)
            case = (number, text, texts)
            kept = book.twin()
            self.assertEqual(plain(text, book=book, texts=texts, most=MOST), wanted, case)
            machine = Machine(text, book=book, texts=texts)
            self.assertEqual(rounds_of(machine), rounds, case)
            self.assertEqual((machine.row(), machine.place(), len(machine), machine.book()), wanted[1:], case)
            fed = Machine("", book=book, texts=texts, is_open=True)
            self.assertEqual(rounds_fed(fed, text, random.Random(number)), rounds, case)
            self.assertEqual((fed.row(), fed.place(), len(fed), fed.book()), wanted[1:], case)
            self.assertEqual(book, kept, case)

    def test_rows_gone_through(self):
        for number in range(1500):
            made = Texts(random.Random(-number))
            book, texts = made.book(), made.texts()
            pieces = pieces_of(made.some(3, 6), book.kinds())
            self.assertEqual(told_or_word(gone_through, pieces, book=book, texts=texts),
                             naive_gone_through(pieces, book, texts), (number, pieces))

    def test_rings(self):
        for number in range(400):
            made = Texts(random.Random(number + 10 ** 6))
            text = "\\rule\\x{" + made.some(1) + "\\y}\\rule\\y{" + made.some(1) + made.one_of("\\x", "\\y", "\\z") + "}\\x"
            texts = made.texts()
            book = made.book()
            for most in (5, 30):
                self.assertEqual(ring(Machine(text, book=book, texts=texts), most=most),
                                 naive_ring(text, most, book=book, texts=texts), (number, text))


class NamesTest(unittest.TestCase):
    """Names of letters called otherwise, and tellings in another order."""

    TEXTS = {"a": "\\one 1\\two", "b": "\\iflike\\one\\two y\\else n\\fi"}

    def renamed(self, text, names):
        return re.sub(r"\\([A-Za-z]+)", lambda found: "\\" + names.get(found[1], found[1]), text)

    def meaning(self, meaning, names):
        """A meaning in which names are called otherwise, too."""
        if meaning is None or meaning[0] != "rule":
            return meaning
        return ("rule", *[tuple(("name", names.get(piece[1], piece[1])) if piece[0] == "name" else piece for piece in part)
                          for part in meaning[1:]])

    def same(self, text, names, known):
        """What is told is the same by other names."""
        book = Book()
        for word in DEEDS:
            if word in names:
                book.put(("name", word), None)
                book.put(("name", names[word]), ("deed", word))
        texts = {name: self.renamed(one, names) for name, one in self.TEXTS.items()}
        one = plain(text, texts=self.TEXTS)
        other = plain(self.renamed(text, names), texts=texts, book=book)
        self.assertEqual((one[:2], one[3]), (other[:2], other[3]), text)
        for name in known:
            self.assertEqual(self.meaning(one[4].worth(("name", name)), names),
                             other[4].worth(("name", names.get(name, name))), (text, name))
        for key in [("box", number) for number in range(4)] + [("kind", sign) for sign in "?!~"]:
            self.assertEqual(one[4].worth(key), other[4].worth(key))

    def test_names_called_otherwise(self):
        known = ("one", "two", "three", *DEEDS)
        others = ["zz", "ZZ", "qqq", "a" * 30, "b" * 29, "Rule", "ab", "ba", "aab", "fii", "elseif", "i", "spell"]
        for number in range(300):
            chance = random.Random(number)
            words = chance.sample(known, 11)
            names = dict(zip(words, chance.sample([name for name in others if len(name) > 1], 11)))
            parts = ["\\one", "\\two ", "\\three.", "\\rule\\one{\\two}", "\\rule\\two#1{[#1]}", "\\rule\\three#1.{\\one#1\\one}",
                     "\\like\\one=\\two ", "\\like\\two=a", "\\iflike\\one\\two y\\else\\one\\fi ", "a", "1 ", "{", "}",
                     "\\set1=\\box2 ", "\\add 1=7 ", "\\figures\\box1 ", "\\text{a}", "\\text{b}", "\\kind{?}{gone}?",
                     "\\ifsame\\one\\two y\\fi", "\\behind\\two\\one ", "\\open\\later\\one\\shut ", "\\all\\rule\\one{a}",
                     "\\through\\one{\\two a}", "\\ifless\\box1<7 y\\else n\\fi", "\\keep1={\\one}\\row1 ", "\\skip", "\\stay "]
            text = "\\rule\\one{a}\\rule\\two{b}\\rule\\three{c}" + "".join(chance.choices(parts, k=8))
            text = re.sub(r"(\\[A-Za-z]+)(?=[A-Za-z])", r"\1 ", text)
            self.same(text, names, known)

    def test_tellings_in_another_order(self):
        tellings = ("\\rule\\one#1{[#1\\two]}", "\\rule\\two{\\three b}", "\\rule ~#1.{<#1>}", "\\rule\\three{c}", "\\rule\\?{}")
        for behind in ("\\one a\\two~b.", "\\three\\?{\\one\\two}", "\\one\\q", "{\\one a", ""):
            told = plain("".join(tellings) + behind)
            for order in itertools.permutations(tellings):
                self.assertEqual(plain("".join(order) + behind), told)


if __name__ == "__main__":
    unittest.main()
