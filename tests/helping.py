"""What several tests of rows share: short ways to write rows and marks, and things that are neither."""

import itertools
import unittest

from mouthrules.errors import Fault
from mouthrules.plain import plain

OPEN, SHUT, MARK, BLANK = ("open", "{"), ("shut", "}"), ("mark", "#"), ("blank", " ")
A, B = ("letter", "a"), ("letter", "b")

WORDS = {"{": "open", "}": "shut", "#": "mark", " ": "blank", "~": "active"}


def piece_of(sign):
    return (WORDS.get(sign, "letter" if sign.isalpha() else "other"), sign)


def row(text):
    """The row that has one piece for each sign, of the kind that the sign has at first."""
    return [piece_of(sign) for sign in text]


def marked(text):
    """A tuple like row's, in which figures are hands."""
    return tuple(("hand", int(sign)) if sign in "123456789" else piece_of(sign) for sign in text)


def hands(*texts):
    return [row(text) for text in texts]


def texts_of(signs, longest):
    """All texts of these signs up to that length."""
    for many in range(longest + 1):
        for text in itertools.product(signs, repeat=many):
            yield "".join(text)


def all_marks(signs, longest):
    """All marks of these signs, and of hands where a figure may stand, up to that length."""
    told = []
    for text in texts_of(signs + "1", longest):
        number = itertools.count(1)
        told.append(marked("".join(str(next(number)) if sign == "1" else sign for sign in text)))
    return told


def told_or_word(asked, *arguments, **more):
    """What is told, or the word of the fault by which it is refused."""
    try:
        return asked(*arguments, **more)
    except Fault as fault:
        return fault.word


def endless_list():
    endless = []
    endless.append(endless)
    return endless


def endless_dict():
    endless = {}
    endless["a"] = endless
    return endless


def odd_things():
    """Things of all sorts; none is a rule, a table for an end, a key, a worth or a piece."""
    deep = ("name", "a")
    for _ in range(5000):
        deep = ("name", deep)
    return [True, False, 1.0, 1.5, float("nan"), float("inf"), 10 ** 12, 10 ** 70, -10 ** 12, b"a", bytearray(b"a"),
            "", "a", "letters", (), ("a",), ("name",), ("name", ""), ["a"], [["a"]], {}, {"a": "letter"}, {"a"},
            frozenset("a"), object(), int, len, lambda: 1, range(3), iter("a"), ValueError("a"), endless_list(),
            endless_dict(), Ellipsis, deep, [deep], ((), [], ()), [None], [()], ("more",)]


def signs(pieces):
    """The signs of pieces, one behind the other; a name as it is written."""
    return "".join("\\" + piece[1] + ";" if piece[0] == "name" else str(piece[1]) for piece in pieces)


def read(text, **more):
    """The word and the told row's signs of a plain reading."""
    word, told, place, rounds, book = plain(text, **more)
    return f"{word} {signs(told)}"


def named(*texts):
    """A row of pieces: a name for each text that begins with an escape, else a piece for each sign."""
    told = []
    for text in texts:
        told.extend([("name", text[1:])] if text[0] == "\\" and text[1:] else row(text))
    return told


class ReadingCase(unittest.TestCase):
    """Reads texts, and holds what is told against what is wanted."""

    def reads(self, *pairs, **more):
        """Of each pair a text and what read tells of it."""
        for text, wanted in pairs:
            with self.subTest(text=text):
                self.assertEqual(read(text, **more), wanted)

    def fails(self, word, *texts, **more):
        """Each text is at fault with that word."""
        for text in texts:
            with self.subTest(text=text):
                self.assertEqual(plain(text, **more)[0], word)

    def keeps(self, text, key, worth, **more):
        """The text is read over, and the book has that worth then."""
        with self.subTest(text=text, key=key):
            told = plain(text, **more)
            self.assertEqual((told[0], told[4].worth(key)), ("over", worth))


def refused_with(case, made, field, thing, asked, *arguments, **more):
    """What is asked is refused so, and the field is the very thing."""
    with case.assertRaises(made) as caught:
        asked(*arguments, **more)
    case.assertIs(caught.exception.__class__, made)
    case.assertIs(getattr(caught.exception, field), thing)


def no_texts_at_all():
    """Things that are no text."""
    return [thing for thing in odd_things() if not isinstance(thing, str)] + [None, 0, 1, ["a"], ("a", "b"), b"", str]


def no_dicts_of_texts():
    """Things that are no dict from names to texts."""
    told = [thing for thing in odd_things() if thing != {} and thing != {"a": "letter"}]
    return told + [0, "a", [], [("a", "b")], (("a", "b"),), {"a": None}, {"a": 1}, {"a": b""}, {"a": ["b"]}, {"": "a"},
                   {"A": "a"}, {"a1": "a"}, {"a b": "a"}, {" ": "a"}, {"abcdefghi": "a"}, {1: "a"}, {None: "a"}, {"a": {}},
                   {("a",): "a"}, {True: "a"}, {b"a": "a"}, {"a": "b", "c": 1}, {"a": "b", "C": "d"}, {"\u00e4": "a"},
                   {"a\n": "a"}, {"ab": "a", 2: "a"}, {"a": ("name", "a")}, {"a-b": ""}]


def no_mosts():
    """Things that are no number of rounds."""
    told = [thing for thing in odd_things() if not isinstance(thing, int) or isinstance(thing, bool)]
    return told + [True, False, None, -1, 5001, 10 ** 6, -5000, 10 ** 59, -10 ** 59, "0", "10", [5], (5,), 5.0, 0.0, b"5", {5}]
