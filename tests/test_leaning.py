"""Points 21 and 3 (f): what parts two books in what was leaned on."""

import copy
import random
import unittest

from chance_texts import Texts
from helping import A, B, named, row, told_or_word
from mouthrules import leaning
from mouthrules.books import DEEDS, Book
from mouthrules.leaning import first_parted
from mouthrules.machine import gone_through
from mouthrules.mouth import Mouth
from mouthrules.pieces import KINDS

LEANS = [("active", "~"), ("box", 2), ("box", 10), ("kind", "?"), ("name", "x"), ("name", "y z"), ("row", 3), ("text", "t")]

# For each of these keys a worth that it hasn't at first.
OTHERS = {("active", "~"): ("deed", "fi"), ("box", 2): 5, ("box", 10): -1, ("kind", "?"): "gone",
          ("name", "x"): ("piece", A), ("name", "y z"): ("rule", (), (A,)), ("row", 3): [A]}


class FirstPartedTest(unittest.TestCase):
    def test_none_where_none_parts(self):
        self.assertIsNone(first_parted(Book(), Book(), LEANS))
        self.assertIsNone(first_parted(Book(), Book(), []))
        self.assertIsNone(first_parted(Book(), Book(), LEANS, texts={"t": "a"}, others={"t": "a", "u": "b"}))
        one = Book()
        for key, worth in (("box", 3), 1), (("name", "~"), ("deed", "fi")), (("kind", "x"), "gone"), (("row", 2), [A]):
            one.put(key, worth)
        self.assertIsNone(first_parted(one, Book(), LEANS, texts={"u": "a"}))
        one.begin("signs")
        self.assertIsNone(first_parted(one, Book(), LEANS))

    def test_each_key_parts(self):
        for key, worth in OTHERS.items():
            one = Book()
            one.put(key, worth)
            with self.subTest(key=key):
                self.assertEqual(first_parted(one, Book(), LEANS), key)
                self.assertEqual(first_parted(Book(), one, LEANS), key)
                self.assertIsNone(first_parted(one, one.twin(), LEANS))
                self.assertIsNone(first_parted(one, Book(), [other for other in LEANS if other != key]))
                other = Book()
                other.put(key, worth)
                self.assertIsNone(first_parted(one, other, LEANS))

    def test_texts_part(self):
        key = ("text", "t")
        for texts, others in (({"t": "a"}, {"t": "b"}), ({"t": "a"}, {}), ({}, {"t": "a"}), ({"t": ""}, {}), ({"t": ""}, None),
                              (None, {"t": ""}), ({"t": "a", "u": "b"}, {"u": "b"})):
            with self.subTest(texts=texts, others=others):
                self.assertEqual(first_parted(Book(), Book(), LEANS, texts=texts, others=others), key)
                self.assertEqual(first_parted(Book(), Book(), [key], texts=texts, others=others), key)
                self.assertIsNone(first_parted(Book(), Book(), LEANS[:-1], texts=texts, others=others))
        for texts, others in (({"t": "a"}, {"t": "a"}), ({}, {}), (None, {}), ({}, None), ({"u": "a"}, {"u": "b"})):
            self.assertIsNone(first_parted(Book(), Book(), LEANS, texts=texts, others=others))

    def test_the_first_one_of_several(self):
        one = Book()
        for key, worth in OTHERS.items():
            one.put(key, worth)
        for start in range(len(LEANS)):
            wanted = LEANS[start]
            self.assertEqual(first_parted(one, Book(), LEANS[start:], texts={"t": "a"}), wanted)
            turned = LEANS[:start + 1][::-1]
            self.assertEqual(first_parted(one, Book(), turned, texts={"t": "a"}), wanted)

    def test_by_names_and_left_out(self):
        one = Book()
        one.put(("box", 2), 5)
        self.assertEqual(first_parted(leans=LEANS, other=one, one=Book(), others={"t": "a"}, texts=None), ("box", 2))
        self.assertRaises(TypeError, first_parted, Book(), Book(), [], {})

    def test_nothing_is_changed(self):
        one, leans, texts = Book(), list(LEANS), {"t": "a"}
        one.put(("row", 3), [A])
        kept = one.twin(), copy.deepcopy((leans, texts))
        first_parted(one, Book(), leans, texts=texts, others=texts)
        self.assertEqual((one, (leans, texts)), kept)

    def test_the_function_stands_in_its_file(self):
        self.assertEqual(first_parted.__module__, leaning.__name__)


class LeansTest(unittest.TestCase):
    def test_leans_of_a_row(self):
        one, other = Book(), Book()
        one.put(("name", "x"), ("rule", (), (A, B)))
        other.put(("name", "x"), ("rule", (), (B, A)))
        told, leans = gone_through(named("\\x", "\\figures", "\\box", "2 "), book=one)
        self.assertEqual(first_parted(one, other, leans), ("name", "x"))
        other.put(("box", 2), 5)
        self.assertEqual(first_parted(one, other, leans), ("box", 2))
        other = one.twin()
        other.put(("box", 3), 5)
        other.put(("name", "y"), ("deed", "fi"))
        self.assertIsNone(first_parted(one, other, leans))
        self.assertEqual(gone_through(named("\\x", "\\figures", "\\box", "2 "), book=other), (told, leans))

    def test_kinds_of_signs_by_which_a_piece_ends(self):
        # A sign of a text by which it shows where a piece ends.
        texts = {"t": "\\q?"}
        told, leans = gone_through(named("\\text", "{t}"), texts=texts)
        self.assertEqual(leans, [("kind", "?"), ("kind", "\\"), ("kind", "q"), ("name", "q"), ("name", "text"), ("text", "t")])
        for kind in KINDS:
            if kind != "other":
                other = Book()
                other.put(("kind", "?"), kind)
                self.assertEqual(first_parted(Book(), other, leans, texts=texts, others=texts), ("kind", "?"))


def changed(book, keys, chance):
    """A twin of a book that is another one at some of these keys."""
    twin = book.twin()
    for key in keys:
        if key[0] == "kind":
            twin.put(key, chance.choice(KINDS))
        elif key[0] == "box":
            twin.put(key, chance.randint(-3, 300))
        elif key[0] == "row":
            twin.put(key, row(chance.choice(("", "a", "1", "{"))))
        elif key[0] in ("name", "active"):
            twin.put(key, chance.choice((None, ("piece", A), ("rule", (), ()), ("rule", (), (B,)), ("deed", "fi"))))
    return twin


def all_keys():
    """Keys that texts by chance may lean on."""
    signs = "abc1.?~ -=!{}\\"
    names = ["x", "y", "z", "so", "?", "ab", "q1", *DEEDS]
    return [("kind", sign) for sign in signs] + [("name", name) for name in names] + [("active", "~"), ("active", "?")] + \
        [(word, number) for word in ("box", "row") for number in (0, 1, 2, 3, 12, 255)]


class AlikeTest(unittest.TestCase):
    def test_books_and_texts_alike_in_all_leans(self):
        parted = alike = 0
        for number in range(1500):
            chance = random.Random(number)
            made = Texts(chance)
            book, texts = made.book(), made.texts()
            mouth, pieces = Mouth(made.some(3, 5) + "."), []
            while (piece := mouth.following(Book().kinds())) is not None:
                pieces.append(piece)
            told = told_or_word(gone_through, pieces, book=book, texts=texts)
            if isinstance(told, str):
                continue
            leans = told[1]
            self.assertEqual(leans, sorted(set(leans)))
            free = [key for key in all_keys() if key not in leans]
            other = changed(book, free, chance)
            others = {name: text if ("text", name) in leans else "\\fi" for name, text in texts.items()}
            self.assertIsNone(first_parted(book, other, leans, texts=texts, others=others))
            self.assertEqual(gone_through(pieces, book=other, texts=others), told, (number, pieces))
            alike += 1
            if leans:
                key = chance.choice(leans)
                other, others = changed(book, [key], chance), dict(texts)
                if key[0] == "text":
                    del others[key[1]]
                wanted = key if key[0] == "text" or other.worth(key) != book.worth(key) else None
                self.assertEqual(first_parted(book, other, leans, texts=texts, others=others), wanted)
                parted += 1
        self.assertGreater(min(alike, parted), 200)


if __name__ == "__main__":
    unittest.main()
